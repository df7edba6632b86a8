/-
  Plain facts on catalogues that grow.
-/
import Derived.Test.YtdkjdiamekfbdaaStCopy
namespace Go.Proofs.Ytdkjdiamekfbdaa
open Go.RowKit
open Rf (Snp)
open St (Ses Opn Sta mayS okS headOk sesGo opnGo snpGo snapOk rises)
open Cm (inR)

theorem and_1' (a : Int) (h0 : 0 ≤ a) (h1 : a ≤ 255) : bits .and .u8 a 1 = a % 2 := by
  show IntKind.u8.wrap ((BitVec.ofInt 8 a &&& BitVec.ofInt 8 1).toNat : Int) = _
  have e1 : (BitVec.ofInt 8 a).toNat = (a % 256).toNat := by simp
  have e2 : (BitVec.ofInt 8 1).toNat = 1 := rfl
  have e3 : ∀ n : Nat, n &&& 1 = n % 2 := fun n => Nat.and_two_pow_sub_one_eq_mod n 1
  have e4 : ∀ n : Int, IntKind.u8.wrap n = n % 256 := fun n => by simp [IntKind.wrap, IntKind.bits, IntKind.signed]
  rw [BitVec.toNat_and, e1, e2, e3, e4]
  omega
theorem field_st0 (c0 c1 c2 c3 c4 c5 c6 : Value) (w : World) : (Instr.field 26 (.agg #[c0, c1, c2, c3, c4, c5, c6]) 0).run Try.prog w = .ok c0 w := by
  have hfo : Try.prog.underlying 26 = some (.struct (Try.prog.fieldsOf 26)) := by kernel_rfl
  unfold Instr.field
  go_simp
  rfl
/-- What is new at version 2, at version 3, is taken away. -/
def bare1 (a : Snp) : Snp := { a with held := false }
def bare2 (a : Snp) : Snp := { a with tag := [] }
def bareS1 (s : Sta) : Sta := { s with snaps := s.snaps.map bare1 }
def bareS2 (s : Sta) : Sta := { s with quota := 0, snaps := s.snaps.map bare2 }
theorem may_ok {s : Sta} {v : Int} (hv : inR v 1 3 = true) : mayS s v = 0 ↔ okS s v = true := by
  unfold mayS
  rw [hv]
  cases okS s v <;> simp
theorem grows_1 {s : Sta} (h : mayS s 1 = 0) : mayS s 2 = 0 := (may_ok rfl).2 (St.okS_mono ((may_ok rfl).1 h) (by decide))
theorem grows_2 {s : Sta} (h : mayS s 2 = 0) : mayS s 3 = 0 := (may_ok rfl).2 (St.okS_mono ((may_ok rfl).1 h) (by decide))
theorem snap_bare1 {a : Snp} {m : Int} (h : snapOk a m 2 = true) : snapOk (bare1 a) m 1 = true := by
  unfold snapOk at *
  simp only [Bool.and_eq_true, Bool.or_eq_true, decide_eq_true_eq, Bool.not_eq_true'] at *
  obtain ⟨h1, h2, h3, h4, h5, h6⟩ := h
  refine ⟨h1, h2, h3, .inl rfl, h5, .inl ?_⟩
  rcases h6 with h6 | h6
  · exact h6
  · omega
theorem snap_bare2 {a : Snp} {m : Int} (h : snapOk a m 3 = true) : snapOk (bare2 a) m 2 = true := by
  unfold snapOk at *
  simp only [Bool.and_eq_true, Bool.or_eq_true, decide_eq_true_eq, Bool.not_eq_true'] at *
  obtain ⟨h1, h2, h3, h4, h5, h6⟩ := h
  exact ⟨h1, h2, h3, .inr (by decide), by show ([] : List Nat).length ≤ 16; simp, .inl rfl⟩
theorem snpGo_map {m v v' : Int} {f : Snp → Snp} (hid : ∀ a, (f a).id = a.id) (hok : ∀ a, snapOk a m v = true → snapOk (f a) m v' = true) : ∀ {l : List Snp} {p : Option Int}, snpGo m v p l = true → snpGo m v' p (l.map f) = true
  | [], _, _ => rfl
  | x :: l, p, h => by
    rw [List.map_cons]
    unfold snpGo at *
    simp only [Bool.and_eq_true] at *
    rw [hid]
    exact ⟨⟨hok x h.1.1, h.1.2⟩, snpGo_map hid hok h.2⟩
theorem bare_1 {s : Sta} (h : mayS s 2 = 0) : mayS (bareS1 s) 1 = 0 := by
  refine (may_ok rfl).2 ?_
  have h := (may_ok rfl).1 h
  unfold okS headOk at *
  simp only [Bool.and_eq_true, Bool.or_eq_true, decide_eq_true_eq] at *
  obtain ⟨⟨h1, h2, h3, h4, h5, h6⟩, h7, h8, h9⟩ := h
  refine ⟨⟨h1, h2, h3, h4, ?_, by show (s.snaps.map bare1).length ≤ 16; rw [List.length_map]; exact h6⟩, h7, h8, snpGo_map (f := bare1) (fun _ => rfl) (fun _ h => snap_bare1 h) h9⟩
  rcases h5 with h5 | h5
  · exact .inl h5
  · omega
theorem bare_2 {s : Sta} (h : mayS s 3 = 0) : mayS (bareS2 s) 2 = 0 := by
  refine (may_ok rfl).2 ?_
  have h := (may_ok rfl).1 h
  unfold okS headOk at *
  simp only [Bool.and_eq_true, Bool.or_eq_true, decide_eq_true_eq] at *
  obtain ⟨⟨h1, h2, h3, h4, h5, h6⟩, h7, h8, h9⟩ := h
  exact ⟨⟨h1, h2, h3, (by decide : inR 0 0 64 = true), .inl rfl, by show (s.snaps.map bare2).length ≤ 16; rw [List.length_map]; exact h6⟩, h7, h8, snpGo_map (f := bare2) (fun _ => rfl) (fun _ h => snap_bare2 h) h9⟩
theorem bare1_tok {s : Sta} (h : Tok s) : Tok (bareS1 s) := ⟨h.v, h.x, h.k, h.q, h.sess, h.opens, fun a ha => by
  obtain ⟨b, hb, rfl⟩ := List.mem_map.1 ha
  exact h.snaps b hb⟩
theorem bare2_tok {s : Sta} (h : Tok s) : Tok (bareS2 s) := ⟨h.v, h.x, h.k, by show I64 0; unfold I64; decide, h.sess, h.opens, fun a ha => by
  obtain ⟨b, hb, rfl⟩ := List.mem_map.1 ha
  obtain ⟨h1, h2, h3, h4⟩ := h.snaps b hb
  exact ⟨h1, h2, h3, by simp [bare2]⟩⟩
theorem bare1_small {s : Sta} (h : Small s) : Small (bareS1 s) := ⟨h.k1, h.k2, by show (s.snaps.map bare1).length ≤ 100; rw [List.length_map]; exact h.k3, fun a ha => by
  obtain ⟨b, hb, rfl⟩ := List.mem_map.1 ha
  exact h.k4 b hb⟩
theorem bare2_small {s : Sta} (h : Small s) : Small (bareS2 s) := ⟨h.k1, h.k2, by show (s.snaps.map bare2).length ≤ 100; rw [List.length_map]; exact h.k3, fun a ha => by
  obtain ⟨b, hb, rfl⟩ := List.mem_map.1 ha
  exact h.k4 b hb⟩
theorem fresh_may1 : mayS St.fresh 1 = 0 := by decide +kernel
theorem fresh_may2 : mayS St.fresh 2 = 0 := by decide +kernel

/-- Where the laying bare stands behind j snapshots. -/
structure GrInv (w5 wr : World) (s : Sta) (q : Pls) (Q : Int) (f : Snp → Snp) (j : Nat) (v : Value) : Prop where
  out : Blk wr w5.heap.size 26 #[.int .i64 s.version, .int .i64 s.next, .int .i64 s.keep, .int .i64 Q, .slice q.a1 q.n1 q.c1, .slice q.a2 q.n2 q.c2, v]
  row : wr.ownsRow w5.heap.size 38 5 v j (pcells sncells ((s.snaps.map f).take j) (q.S.take j))
  below : Below w5.heap.size w5 wr
theorem GrInv.step {w5 wr w2 : World} {s : Sta} {q : Pls} {Q : Int} {f : Snp → Snp} {j : Nat} {v v2 : Value} {x : Snp} {t : Option Addr × Nat} {cs : List Value} {b1 b2 : Obj} (h : GrInv w5 wr s q Q f j v) (hl : q.S.length = s.snaps.length) (hx : s.snaps[j]? = some x) (ht : q.S[j]? = some t) (hcs : sncells (f x) t = cs)
    (o2 : w2.ownsRow w5.heap.size 38 5 v2 (j + 1) (pcells sncells ((s.snaps.map f).take j) (q.S.take j) ++ cs)) (g2 : ((wr.alloc b1).alloc b2).grownBy w2 v.ownBlock) : GrInv w5 (w2.setCell ⟨w5.heap.size, 6, none⟩ v2) s q Q f (j + 1) v2 := by
  have hS := (List.getElem?_eq_some_iff.1 ht).1
  have hwu := h.below.size
  have out2 := blk_kept ((h.out.alloc b1).alloc b2) g2 (blk_apart h.out h.row (by decide))
  refine ⟨by simpa using out2.put 6 v2, ?_, (((h.below.alloc hwu _).alloc (by simp; omega) _).grown g2 (by simp; omega) fun k hk => (h.row.lt k hk).1).setCell (Nat.le_refl _) _⟩
  refine own_away ?_ (blk_apart out2 o2 (by decide)) _ _
  rw [List.take_add_one, List.take_add_one, List.getElem?_map, hx, ht, pcells_app _ _ _ _ (by rw [List.length_take, List.length_take, List.length_map]; omega)]
  simp only [Option.map_some, Option.toList_some]
  rw [pcells_one, hcs]
  exact o2
/-- What comes of it. -/
theorem GrInv.rdt {w5 wr : World} {s s2 : Sta} {q : Pls} {Q : Int} {f : Snp → Snp} {A : Option Addr} {c : Nat} (h : GrInv w5 wr s q Q f q.n3 (.slice A q.n3 c)) (hr : RdT w5 w5.heap.size s q) (hf : ∀ a, (f a).chunks = a.chunks) (e1 : s2.sess = s.sess) (e2 : s2.opens = s.opens) (e3 : s2.snaps = s.snaps.map f) :
    RdT wr wr.heap.size s2 ⟨q.a1, q.n1, q.c1, q.a2, q.n2, q.c2, A, q.n3, c, q.S⟩ := by
  have hb := h.below
  have hrow := h.row
  rw [List.take_of_length_le (by rw [List.length_map, hr.snaps.1]; exact Nat.le_refl _), List.take_of_length_le (by rw [hr.snaps.2.1]; exact Nat.le_refl _)] at hrow
  have hin := (hr.snaps.below hb).inner
  have hin2 : InnS wr w5.heap.size (s.snaps.map f) q.S := by
    refine ⟨by rw [List.length_map]; exact hin.1, fun k a t ha ht => ?_⟩
    rw [List.getElem?_map] at ha
    cases hk : s.snaps[k]? with
    | none => rw [hk] at ha; cases ha
    | some b =>
      rw [hk] at ha
      cases ha
      have := hin.2 k b t hk ht
      unfold sninn at *
      rw [hf]
      exact this
  obtain ⟨A', c', h1, h2, h3, h4⟩ := RdP.of_own (inn := sninn) hrow (by rw [List.length_map]; exact hr.snaps.1) hr.snaps.2.1 hb.size hin2.2
  cases h1
  have r := (hr.below hb).more hb.size
  refine ⟨by rw [e1]; exact r.sess, by rw [e2]; exact r.opens, by rw [e3]; exact h4, r.k1, r.k2, ⟨h2, h3⟩⟩
end Go.Proofs.Ytdkjdiamekfbdaa
