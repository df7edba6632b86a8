/-
  The walk of the laws' less: a catalogue of at most 20 clients, open backups and snapshots, of 12 chunks and 40 bytes of text each.
-/
import Derived.Test.YtdkjdiamekfbdaaStCopy
namespace Go.Proofs.Ytdkjdiamekfbdaa
open Go.RowKit
open Rf (Snp)
open St (Ses Opn Sta)

def cutT (a : Snp) : Snp := { a with chunks := a.chunks.take 12, tag := a.tag.take 40 }
def lessN (l : List Snp) : List Snp := (l.take 20).map cutT
def lessT (s : Sta) : Sta := { s with sess := s.sess.take 20, opens := s.opens.take 20, snaps := lessN s.snaps }
theorem lessN_len (l : List Snp) : (lessN l).length = min 20 l.length := by simp [lessN]
theorem lessN_get {l : List Snp} {j : Nat} {f : Snp} (h : l[j]? = some f) (hj : j < 20) : (lessN l)[j]? = some (cutT f) := by
  unfold lessN
  rw [List.getElem?_map, List.getElem?_take, if_pos hj, h]; rfl
theorem lessT_tok {s : Sta} (h : Tok s) : Tok (lessT s) := by
  refine ⟨h.v, h.x, h.k, h.q, fun a ha => h.sess a (List.mem_of_mem_take ha), fun a ha => h.opens a (List.mem_of_mem_take ha), fun a ha => ?_⟩
  obtain ⟨b, hb, rfl⟩ := List.mem_map.1 ha
  obtain ⟨h1, h2, h3, h4⟩ := h.snaps b (List.mem_of_mem_take hb)
  exact ⟨h1, h2, fun x hx => h3 x (List.mem_of_mem_take hx), fun x hx => h4 x (List.mem_of_mem_take hx)⟩
theorem lessT_len (s : Sta) : (lessT s).sess.length ≤ 20 ∧ (lessT s).opens.length ≤ 20 ∧ (lessT s).snaps.length ≤ 20 ∧ ∀ a ∈ (lessT s).snaps, a.chunks.length ≤ 12 ∧ a.tag.length ≤ 40 := by
  refine ⟨by show (s.sess.take 20).length ≤ 20; rw [List.length_take]; omega, by show (s.opens.take 20).length ≤ 20; rw [List.length_take]; omega, by show (lessN s.snaps).length ≤ 20; rw [lessN_len]; omega, fun a ha => ?_⟩
  obtain ⟨b, hb, rfl⟩ := List.mem_map.1 ha
  exact ⟨by show (b.chunks.take 12).length ≤ 12; rw [List.length_take]; omega, by show (b.tag.take 40).length ≤ 40; rw [List.length_take]; omega⟩
theorem lessT_small (s : Sta) : Small (lessT s) := by
  obtain ⟨h1, h2, h3, h4⟩ := lessT_len s
  exact ⟨by omega, by omega, by omega, fun a ha => by have := (h4 a ha).1; omega⟩
theorem str_take (l : List Nat) (k : Nat) : (strOf l).extract 0 k = strOf (l.take k) := by
  unfold strOf
  apply ByteArray.ext
  simp [List.map_take]
theorem rowc_take {α : Type} {cf : α → List Value} {sz : Nat} (h : ∀ a, (cf a).length = sz) : ∀ (l : List α) (m : Nat), rowc cf (l.take m) = (rowc cf l).take (m * sz)
  | [], m => by simp [rowc]
  | a :: l, 0 => by simp [rowc]
  | a :: l, m + 1 => by
    have e : (cf a).take ((m + 1) * sz) = cf a := List.take_of_length_le (by rw [h, Nat.succ_mul]; omega)
    rw [List.take_succ_cons, rowc_cons, rowc_cons, rowc_take h l m, List.take_append, h, e, Nat.succ_mul, Nat.add_sub_cancel]
theorem RdR.take {α : Type} {cf : α → List Value} {sz : Nat} (hc : ∀ a, (cf a).length = sz) {w : World} {B n m : Nat} {A : Option Addr} {l : List α} (h : RdR cf sz w B A n l) (hm : m ≤ n) : RdR cf sz w B A m (l.take m) := by
  refine ⟨by rw [List.length_take, h.1]; omega, ?_⟩
  rw [rowc_take hc]
  exact h.2.take hm
theorem lessN_rd {w w' : World} {B : Nat} {A : Option Addr} {n : Nat} {l : List Snp} {S : List (Option Addr × Nat)} (h : RdS w B A n l S) (hb : Below B w w') : InnS w' B (lessN l) (S.take 20) := by
  refine ⟨by rw [lessN_len, List.length_take, h.1, h.2.1], fun k f s hf hs => ?_⟩
  have hk : k < 20 := by
    have := (List.getElem?_eq_some_iff.1 hs).1
    rw [List.length_take] at this
    omega
  rw [List.getElem?_take, if_pos hk] at hs
  obtain ⟨g, hg⟩ : ∃ g, l[k]? = some g := ⟨l[k]'(by have := (List.getElem?_eq_some_iff.1 hs).1; have := h.1; have := h.2.1; omega), by simp⟩
  rw [lessN_get hg hk] at hf
  obtain rfl := Option.some.inj hf
  obtain ⟨h1, h2, h3⟩ := h.2.2.2 k g s hg hs
  have e1 : (sninn g).length = g.chunks.length := ivs_len _
  rw [e1] at h1 h2
  show Rd w' B 1 s.1 (ivs (g.chunks.take 12)).length (ivs (g.chunks.take 12)) ∧ (ivs (g.chunks.take 12)).length ≤ s.2 ∧ _
  rw [ivs_len]
  have hlen : (g.chunks.take 12).length ≤ g.chunks.length := by rw [List.length_take]; omega
  refine ⟨?_, by omega, h3⟩
  have h4 := (h1.below hb).take hlen
  rw [Nat.mul_one] at h4
  have e : (sninn g).take (g.chunks.take 12).length = ivs (g.chunks.take 12) := by
    unfold sninn ivs
    rw [← List.map_take]
    congr 1
    rw [List.length_take, List.take_eq_take_iff]; omega
  rw [e] at h4
  exact h4
/-- A catalogue whose row of snapshots is a call's own, from block C on; all else of it lies below block B. -/
structure LieT (w : World) (B C : Nat) (s : Sta) (q : Pls) : Prop where
  sess : RdR secells 4 w B q.a1 q.n1 s.sess
  opens : RdR opcells 2 w B q.a2 q.n2 s.opens
  row : w.ownsRow C 38 5 (.slice q.a3 q.n3 q.c3) q.n3 (pcells sncells s.snaps q.S)
  len : s.snaps.length = q.n3
  inn : InnS w B s.snaps q.S
  k1 : q.n1 ≤ q.c1 ∧ q.c1 ≤ 9223372036854775807
  k2 : q.n2 ≤ q.c2 ∧ q.c2 ≤ 9223372036854775807
theorem LieT.rdt {w : World} {B C : Nat} {s : Sta} {q : Pls} (h : LieT w B C s q) (hB : B ≤ w.heap.size) : RdT w w.heap.size s q := by
  obtain ⟨A, c, h1, _, _, h4⟩ := RdP.of_own (inn := sninn) h.row h.len (by rw [h.inn.1, h.len]) hB h.inn.2
  cases h1
  exact ⟨h.sess.more hB, h.opens.more hB, h4, h.k1, h.k2, own_cap' h.row⟩
theorem LieT.grown {w w' : World} {B C g : Nat} {s : Sta} {q : Pls} (h : LieT w B C s q) (hg : w.grownBy w' (some g)) (hB : B ≤ g) (hC : g < C) (hw : B ≤ w.heap.size) : LieT w' B C s q := by
  have hb : Below B w w' := (Below.refl _ _).grown hg hw (fun k hk => by injection hk with hk; omega)
  exact ⟨h.sess.below hb, h.opens.below hb, h.row.kept hg (.inr fun e => by have := (h.row.lt _ e).1; omega), h.len, h.inn.below hb, h.k1, h.k2⟩
theorem LieT.below {w w' : World} {B C : Nat} {s : Sta} {q : Pls} (h : LieT w B C s q) (hb : Below w.heap.size w w') (hw : B ≤ w.heap.size) : LieT w' B C s q :=
  ⟨h.sess.below (hb.mono hw), h.opens.below (hb.mono hw), own_below h.row hb, h.len, h.inn.below (hb.mono hw), h.k1, h.k2⟩
def LsBack (w : World) (B : Nat) (s : Sta) (e : Ending) (w' : World) : Prop := ∃ q, e = .returned (stagg s q) ∧ LieT w' B w.heap.size s q ∧ Below w.heap.size w w'
/-- Where the cutting stands behind j snapshots. -/
structure LsInv (u wr : World) (s : Sta) (p : Pls) (m1 m2 : Nat) (j : Nat) (v : Value) : Prop where
  box : Blk wr u.heap.size 26 #[.int .i64 s.version, .int .i64 s.next, .int .i64 s.keep, .int .i64 s.quota, .slice p.a1 m1 p.c1, .slice p.a2 m2 p.c2, .slice p.a3 p.n3 p.c3]
  res : Blk wr (u.heap.size + 1) 26 #[.int .i64 0, .int .i64 0, .int .i64 0, .int .i64 0, .slice none 0 0, .slice none 0 0, .slice none 0 0]
  snaps : wr.ownsRow u.heap.size 38 5 v j (pcells sncells ((lessN s.snaps).take j) (p.S.take j))
  below : Below u.heap.size u wr
theorem LsInv.step {u wr w2 : World} {s : Sta} {p : Pls} {m1 m2 j : Nat} {v v2 : Value} {x : Snp} {t : Option Addr × Nat} {cs : List Value} {b1 b2 : Obj} (h : LsInv u wr s p m1 m2 j v) (hj : j < 20) (hl : p.S.length = s.snaps.length) (hx : s.snaps[j]? = some x) (ht : p.S[j]? = some t) (hcs : sncells (cutT x) t = cs)
    (o2 : w2.ownsRow u.heap.size 38 5 v2 (j + 1) (pcells sncells ((lessN s.snaps).take j) (p.S.take j) ++ cs)) (g2 : ((wr.alloc b1).alloc b2).grownBy w2 v.ownBlock) : LsInv u w2 s p m1 m2 (j + 1) v2 := by
  have hS := (List.getElem?_eq_some_iff.1 ht).1
  have hwu := h.below.size
  refine ⟨blk_kept ((h.box.alloc _).alloc _) g2 (blk_apart h.box h.snaps (by decide)), blk_kept ((h.res.alloc _).alloc _) g2 (blk_apart h.res h.snaps (by decide)), ?_, ((h.below.alloc hwu _).alloc (by simp; omega) _).grown g2 (by simp; omega) fun k hk => (h.snaps.lt k hk).1⟩
  rw [List.take_add_one, List.take_add_one, lessN_get hx hj, ht, pcells_app _ _ _ _ (by rw [List.length_take, List.length_take, lessN_len]; omega)]
  simp only [Option.toList_some]
  rw [pcells_one, hcs]
  exact o2

set_option maxHeartbeats 8000000 in
set_option maxRecDepth 100000 in
theorem less_any (s : Sta) (p : Pls) (B : Nat) (u : World) (h0 : RdT u B s p) (hB : B ≤ u.heap.size) : Calls Try.prog 10 #[stagg s p] u (LsBack u B (lessT s)) := by
  have h := h0.more hB
  have HR0 := Lib.hid h0
  obtain ⟨k0, hk, kz0, kz1, kz2⟩ := info_parts snap_info
  have HR := Lib.hid h
  obtain ⟨q1, q1'⟩ := h.k1
  obtain ⟨q2, q2'⟩ := h.k2
  obtain ⟨q3, q3'⟩ := h.k3
  obtain ⟨n3, hn3⟩ : ∃ n3, n3 = p.n3 := ⟨_, rfl⟩
  obtain ⟨m3, hm3⟩ : ∃ m, m = min 20 p.n3 := ⟨_, rfl⟩
  have hm3' : m3 ≤ p.n3 ∧ m3 ≤ 20 ∧ (m3 < 20 → m3 = p.n3) := by omega
  have HM3 := Lib.hid hm3
  clear h h0 hm3 hn3
  unfold stagg stblk
  go_enter Try.func10, Try.ntmps10
  go_upto_if 9 with fail
  go_cut [] (fun wx => ∃ m, m = min 20 p.n1 ∧ wx = (u.alloc (.cells #[.int .i64 s.version, .int .i64 s.next, .int .i64 s.keep, .int .i64 s.quota, .slice p.a1 m p.c1, .slice p.a2 p.n2 p.c2, .slice p.a3 p.n3 p.c3] 26)).alloc (.cells #[.int .i64 0, .int .i64 0, .int .i64 0, .int .i64 0, .slice none 0 0, .slice none 0 0, .slice none 0 0] 26))
  case first =>
    by_cases hl : 20 < p.n1
    · have e1 : (20 : Int) ≤ (p.c1 : Int) := by omega
      go_wp2
      go_meet
      case rel => exact ⟨20, by omega, rfl⟩
    · go_wp2
      go_meet
      case rel => exact ⟨p.n1, by omega, rfl⟩
  case rest =>
    obtain ⟨m1, hm1, hwc⟩ := hcut
    have HM1 := Lib.hid hm1
    have hm1n : m1 ≤ p.n1 := by omega
    clear hm1
    subst hwc
    go_upto_if 17 with fail
    go_cut [] (fun wx => ∃ m, m = min 20 p.n2 ∧ wx = (u.alloc (.cells #[.int .i64 s.version, .int .i64 s.next, .int .i64 s.keep, .int .i64 s.quota, .slice p.a1 m1 p.c1, .slice p.a2 m p.c2, .slice p.a3 p.n3 p.c3] 26)).alloc (.cells #[.int .i64 0, .int .i64 0, .int .i64 0, .int .i64 0, .slice none 0 0, .slice none 0 0, .slice none 0 0] 26))
    case first =>
      by_cases hl : 20 < p.n2
      · have e1 : (20 : Int) ≤ (p.c2 : Int) := by omega
        go_wp2
        go_meet
        case rel => exact ⟨20, by omega, rfl⟩
      · go_wp2
        go_meet
        case rel => exact ⟨p.n2, by omega, rfl⟩
    case rest =>
      obtain ⟨m2, hm2, hwc⟩ := hcut
      have HM2 := Lib.hid hm2
      have hm2n : m2 ≤ p.n2 := by omega
      have hinv : LsInv u (wc.alloc (.cells #[] 38)) s p m1 m2 0 (.slice (some ⟨wc.heap.size, 0, none⟩) 0 0) := by
        have hs : wc.heap.size = u.heap.size + 2 := by rw [hwc]; simp
        have hb : Below u.heap.size u wc := by rw [hwc]; exact ((Below.refl _ _).alloc (Nat.le_refl _) _).alloc (by simp) _
        have b1 : Blk wc u.heap.size 26 #[.int .i64 s.version, .int .i64 s.next, .int .i64 s.keep, .int .i64 s.quota, .slice p.a1 m1 p.c1, .slice p.a2 m2 p.c2, .slice p.a3 p.n3 p.c3] := by rw [hwc]; exact (Blk.new _ _ _).alloc _
        have b2 : Blk wc (u.heap.size + 1) 26 #[.int .i64 0, .int .i64 0, .int .i64 0, .int .i64 0, .slice none 0 0, .slice none 0 0, .slice none 0 0] := by
          rw [hwc]
          simpa using Blk.new (u.alloc (.cells #[.int .i64 s.version, .int .i64 s.next, .int .i64 s.keep, .int .i64 s.quota, .slice p.a1 m1 p.c1, .slice p.a2 m2 p.c2, .slice p.a3 p.n3 p.c3] 26)) #[.int .i64 0, .int .i64 0, .int .i64 0, .int .i64 0, .slice none 0 0, .slice none 0 0, .slice none 0 0] 26
        exact ⟨b1.alloc _, b2.alloc _, by simpa [pcells] using World.ownsRow_made (e := 38) (size := 5) (base := u.heap.size) wc #[] 0 hb.size (by unfold maxLen; omega) rfl, hb.alloc hb.size _⟩
      have HINV := Lib.hid hinv
      clear hm2 hwc hinv
      go_wp2
      go_loopw [3, 4] (fun v i wr => ∃ j : Nat, j ≤ m3 ∧ i = .int .i64 (j : Int) ∧ LsInv u wr s p m1 m2 j v) (fun _ i _ => m3 - (intOf i).toNat)
      case atStart => exact ⟨0, Nat.zero_le _, rfl, HINV.out⟩
      case round =>
        obtain ⟨j, hj, rfl, hls⟩ := hrel
        have HS := Lib.hid hls
        have hb := hls.below
        have hsz := hb.size
        have x6 : wr.cell? ⟨u.heap.size, 6, none⟩ = some (.slice p.a3 p.n3 p.c3) := hls.box.cell 6
        have hl0 := hls.box.lt
        clear hls
        by_cases hlt : j < m3
        · have hj20 : j < 20 := by omega
          have hjn : j < p.n3 := by omega
          obtain ⟨ad, x, ⟨t1, t2⟩, had, hab, hx, ht, g0, g1, g2, g3, g4, e1, e2, e3⟩ := rds_get (HR.out.snaps.below hb) hjn
          rw [had] at x6
          clear had e1
          simp only [] at g2 e2 e3
          have HX := Lib.hid hx
          have HT := Lib.hid ht
          have hsz4 := strOf_size x.tag
          have hst := str_take x.tag 40
          have hji : (j : Int) < (p.n3 : Int) := by omega
          clear hx ht
          go_upto_if 42 with fail
          go_cut [] (fun wx => ∃ m, m = min 12 x.chunks.length ∧ wx = wr.alloc (.cells #[.int .i64 x.id, .int .i64 x.set, .slice t1 m t2, .bool x.held, .string (strOf x.tag)] 38))
          case first =>
            by_cases hl : 12 < x.chunks.length
            · have e1 : (12 : Int) ≤ (t2 : Int) := by omega
              go_wp2
              go_meet
              case rel => exact ⟨12, by omega, rfl⟩
            · go_wp2
              go_meet
              case rel => exact ⟨x.chunks.length, by omega, rfl⟩
          case rest =>
            obtain ⟨m, hm, hwc⟩ := hcut
            have HM := Lib.hid hm
            clear hm
            subst hwc
            go_upto_if 50 with fail
            go_cut [] (fun wx => wx = wr.alloc (.cells #[.int .i64 x.id, .int .i64 x.set, .slice t1 m t2, .bool x.held, .string (strOf (x.tag.take 40))] 38))
            case first =>
              by_cases hl : 40 < x.tag.length
              · go_wp2
                go_meet
                case rel => rfl
              · have hsame : x.tag.take 40 = x.tag := List.take_of_length_le (by omega)
                have HSAME := Lib.hid hsame
                clear hsame hst
                go_wp2
                go_meet
                case rel => rw [HSAME.out]
            case rest =>
              subst hcut
              have HCS := Lib.hid (show sncells (cutT x) (t1, t2) = [.int .i64 x.id, .int .i64 x.set, .slice t1 m t2, .bool x.held, .string (strOf (x.tag.take 40))] by
                have : (cutT x).chunks.length = m := by show (x.chunks.take 12).length = m; rw [List.length_take, HM.out]
                unfold sncells
                rw [this]; rfl)
              obtain ⟨tg, htg⟩ : ∃ tg, x.tag.take 40 = tg := ⟨_, rfl⟩
              rw [htg] at HCS ⊢
              clear htg hst hsz4 g0 g1 g2 g3 g4
              have hr6 : Rd ((wr.alloc (.cells #[.int .i64 x.id, .int .i64 x.set, .slice t1 m t2, .bool x.held, .string (strOf tg)] 38)).alloc (.cells #[.int .i64 x.id, .int .i64 x.set, .slice t1 m t2, .bool x.held, .string (strOf tg)] 38)) (wr.heap.size + 1 + 1) 5 (some ⟨wr.heap.size + 1, 0, none⟩) 1 [.int .i64 x.id, .int .i64 x.set, .slice t1 m t2, .bool x.held, .string (strOf tg)] := by
                have := rd_cells (wr.alloc (.cells #[.int .i64 x.id, .int .i64 x.set, .slice t1 m t2, .bool x.held, .string (strOf tg)] 38)) [.int .i64 x.id, .int .i64 x.set, .slice t1 m t2, .bool x.held, .string (strOf tg)] 38 (size := 5) (n := 1) rfl
                simpa using this
              go_wp2_with (at_builtin; refine wpList_append_rd _ rfl (.tmp 55) (.tmp 57) 24 rfl u.heap.size 38 k0 (.agg #[.int .i64 0, .int .i64 0, .slice none 0 0, .bool false, .string (strOf [])]) 5 64 Try.underlying24 hk kz0 kz1 kz2 rfl (by decide) _ j _ rfl ((HS.out.snaps.alloc _).alloc _) (wr.heap.size + 1 + 1) (some ⟨wr.heap.size + 1, 0, none⟩) 1 1 [.int .i64 x.id, .int .i64 x.set, .slice t1 m t2, .bool x.held, .string (strOf tg)] rfl hr6 (by intro e he; simp at he; rcases he with rfl | rfl | rfl | rfl | rfl <;> rfl) (by unfold maxLen; omega) (by omega) (by simp; omega) ?_)
              intro v8 w8 o8 g8
              have STEP := Lib.hid (HS.out.step hj20 (by rw [HR.out.snaps.1, HR.out.snaps.2.1]) HX.out HT.out HCS.out o8 g8)
              clear o8 g8
              go_wp2
              go_roundw
              case rel => exact ⟨j + 1, by omega, by go_num, STEP.out⟩
              case measure => simp [intOf]; omega
        · obtain rfl : j = m3 := by omega
          obtain ⟨A3, c3, rfl, hA3, hc3⟩ := slice_of_own HS.out.snaps
          have y := HS.out.box
          obtain ⟨x0, x1, x2, x3, x4, x5, _⟩ : wr.cell? ⟨u.heap.size, 0, none⟩ = some (.int .i64 s.version) ∧ wr.cell? ⟨u.heap.size, 1, none⟩ = some (.int .i64 s.next) ∧ wr.cell? ⟨u.heap.size, 2, none⟩ = some (.int .i64 s.keep) ∧ wr.cell? ⟨u.heap.size, 3, none⟩ = some (.int .i64 s.quota) ∧
            wr.cell? ⟨u.heap.size, 4, none⟩ = some (.slice p.a1 m1 p.c1) ∧ wr.cell? ⟨u.heap.size, 5, none⟩ = some (.slice p.a2 m2 p.c2) ∧ True := ⟨y.cell 0, y.cell 1, y.cell 2, y.cell 3, y.cell 4, y.cell 5, trivial⟩
          have y6 := y.frozen 6
          have r := HS.out.res
          obtain ⟨d0, d1, d2, d3, d4, d5, d6⟩ : wr.cell? ⟨u.heap.size + 1, 0, none⟩ = some (.int .i64 0) ∧ wr.cell? ⟨u.heap.size + 1, 1, none⟩ = some (.int .i64 0) ∧ wr.cell? ⟨u.heap.size + 1, 2, none⟩ = some (.int .i64 0) ∧ wr.cell? ⟨u.heap.size + 1, 3, none⟩ = some (.int .i64 0) ∧
            wr.cell? ⟨u.heap.size + 1, 4, none⟩ = some (.slice none 0 0) ∧ wr.cell? ⟨u.heap.size + 1, 5, none⟩ = some (.slice none 0 0) ∧ wr.cell? ⟨u.heap.size + 1, 6, none⟩ = some (.slice none 0 0) := ⟨r.cell 0, r.cell 1, r.cell 2, r.cell 3, r.cell 4, r.cell 5, r.cell 6⟩
          have z0 := r.frozen 0
          have z1 := r.frozen 1
          have z2 := r.frozen 2
          have z3 := r.frozen 3
          have z4 := r.frozen 4
          have z5 := r.frozen 5
          have z6 := r.frozen 6
          have FIN : ∀ w9, Blk w9 (u.heap.size + 1) 26 #[.int .i64 s.version, .int .i64 s.next, .int .i64 s.keep, .int .i64 s.quota, .slice p.a1 m1 p.c1, .slice p.a2 m2 p.c2, .slice A3 j c3] → (wr.setCell ⟨u.heap.size, 6, none⟩ (.slice A3 j c3)).grownBy w9 (some (u.heap.size + 1)) → LsBack u B (lessT s) (.returned (.agg #[.int .i64 s.version, .int .i64 s.next, .int .i64 s.keep, .int .i64 s.quota, .slice p.a1 m1 p.c1, .slice p.a2 m2 p.c2, .slice A3 j c3])) w9 := by
            intro w9 _ hg
            have hS := HS.out
            have o1 := own_away hS.snaps (blk_apart hS.box hS.snaps (by decide)) 6 (.slice A3 j c3)
            have r1 := hS.res.far (p := ⟨u.heap.size, 6, none⟩) (by simp) (.slice A3 j c3)
            have o2 := o1.kept hg (.inr fun e => blk_apart r1 o1 (by decide) e.symm)
            have b1 : Below u.heap.size u (wr.setCell ⟨u.heap.size, 6, none⟩ (.slice A3 j c3)) := hb.setCell (by simp) _
            have b2 := b1.grown hg b1.size (fun k hk => by injection hk with hk; omega)
            have hlen : (lessN s.snaps).length = j := by rw [lessN_len, HR.out.snaps.1, HM3.out]
            rw [List.take_of_length_le (by omega), show p.S.take j = p.S.take 20 by rw [List.take_eq_take_iff, HR.out.snaps.2.1]; have := HM3.out; omega] at o2
            have b3 := b2.mono hB
            refine ⟨⟨p.a1, m1, p.c1, p.a2, m2, p.c2, A3, j, c3, p.S.take 20⟩, rfl, ⟨?_, ?_, o2, hlen, lessN_rd HR0.out.snaps b3, ⟨by show m1 ≤ p.c1; omega, q1'⟩, ⟨by show m2 ≤ p.c2; omega, q2'⟩⟩, b2⟩
            · have := (HR0.out.sess.take se_len hm1n).below b3
              rw [show s.sess.take m1 = s.sess.take 20 by rw [List.take_eq_take_iff, HR.out.sess.1]; have := HM1.out; omega] at this
              exact this
            · have := (HR0.out.opens.take op_len hm2n).below b3
              rw [show s.opens.take m2 = s.opens.take 20 by rw [List.take_eq_take_iff, HR.out.opens.1]; have := HM2.out; omega] at this
              exact this
          have HF := Lib.hid FIN
          have HRR := Lib.hid r
          clear y r FIN
          rcases Nat.lt_or_ge j p.n3 with hj1 | hj1
          · have hj2 : 20 ≤ j := by omega
            go_wp2
            (try simp only [Exit.inBlock, Exit.then])
            obtain ⟨h1, h2⟩ := blk_set7 (HRR.out.far (p := ⟨u.heap.size, 6, none⟩) (by simp) (.slice A3 j c3)) (.int .i64 s.version) (.int .i64 s.next) (.int .i64 s.keep) (.int .i64 s.quota) (.slice p.a1 m1 p.c1) (.slice p.a2 m2 p.c2) (.slice A3 j c3)
            exact bodyPost_ret (results_cell_row rfl _ _ (u.heap.size + 1) 26 _ (0, 0) _ rfl h1 Try.underlying26 rfl (by kernel_rfl)) rfl (HF.out _ h1 h2)
          · go_wp2
            (try simp only [Exit.inBlock, Exit.then])
            obtain ⟨h1, h2⟩ := blk_set7 (HRR.out.far (p := ⟨u.heap.size, 6, none⟩) (by simp) (.slice A3 j c3)) (.int .i64 s.version) (.int .i64 s.next) (.int .i64 s.keep) (.int .i64 s.quota) (.slice p.a1 m1 p.c1) (.slice p.a2 m2 p.c2) (.slice A3 j c3)
            exact bodyPost_ret (results_cell_row rfl _ _ (u.heap.size + 1) 26 _ (0, 0) _ rfl h1 Try.underlying26 rfl (by kernel_rfl)) rfl (HF.out _ h1 h2)
end Go.Proofs.Ytdkjdiamekfbdaa
