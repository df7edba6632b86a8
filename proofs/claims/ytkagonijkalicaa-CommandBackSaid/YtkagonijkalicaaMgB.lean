/-
  Several texts in one: Lift, Open, TlRows, TlMem, TlFalls.
-/
import Derived.Test.YtkagonijkalicaaRows
import Derived.Test.YtkagonijkalicaaWords
import Derived.WalkKit
import Derived.ProofKit
import Derived.OpenShut
import Derived.Lib.SmallJoins
import Derived.Test.YtkagonijkalicaaMgA
set_option linter.unusedVariables false
set_option linter.unusedSimpArgs false

/-
  From a law's walk to its row, whatever its parameters: it answers true, and all that was there is as it was.
-/
namespace Go.Proofs.Ytkagonijkalicaa
open Go.ChangeShapes Go.WideShapes Go.ChangeAt Go.RowKit

theorem own : ownKnob Try.prog.godebug = none := by kernel_rfl
theorem laidOut : laidOutB Try.prog = true := by kernel_rfl

section
variable {H : Type} {enc : TypeId × Value → H} {P : Program}

theorem trodAll_below (hl : laidOutB P = true) {W W' : World} (hb : Below W.heap.size W W') : ∀ {ts : List TypeId} {vs : List Value} {ds : List (DataW H)} {ps : List MemPlace},
    (ts.all fun t => P.readableRec t && decide (t < P.types.size)) = true → DataW.TrodAll enc P W 0 (fun _ => true) true ts vs ds ps → (∀ x ∈ ps, x.block < W.heap.size) →
    DataW.TrodAll enc P W' 0 (fun b => decide (b < W.heap.size)) true ts vs ds ps
  | [], _, _, _, _, h, _ => by
    obtain ⟨rfl, rfl, rfl⟩ := trodAll_nil h
    exact trodAll_mk0
  | t :: ts, _, _, _, hr, h, hlt => by
    obtain ⟨v, vs, d, ds, p, q, rfl, rfl, rfl, h1, h2⟩ := trodAll_cons h
    simp only [List.all_cons, Bool.and_eq_true, decide_eq_true_eq] at hr
    exact ⟨p, q, Below.trod hl hr.1.1 hr.1.2 h1 hb (fun x hx => hlt x (List.mem_append_left _ hx)),
      trodAll_below hl hb (by simpa using hr.2) h2 (fun x hx => hlt x (List.mem_append_right _ hx)), rfl⟩

theorem law_post {f : Func} {s : ChangeSpec} {W W' : World} {args : Array Value} {ds gs : List (DataW H)} {before : List MemPlace} {tb : TypeId}
    (hl : laidOutB P = true) (hr : (f.params.toList.all fun t => P.readableRec t && decide (t < P.types.size)) = true) (hres : f.resultTypes = #[tb]) (htb : P.underlying tb = some .bool) (hvars : s.vars = [])
    (hW : DataW.Whole enc P f.params.toList s.vars false W args.toList ds gs before) (hfn : s.fn H ds = { results := [.lit (.bool true)], args := ds }) (hb : Below W.heap.size W W') :
    s.post enc P f false true false false W args (.bool true) W' := by
  have hlt := hW.lt
  have hW0 := hW
  obtain ⟨p, q, hA, hV, rfl, _, _⟩ := hW
  rw [hvars] at hV
  obtain ⟨rfl, rfl⟩ := trodVars_none hV
  rw [List.append_nil] at *
  refine ⟨ds, [], p, [], p, [], hW0, ?_, ?_, ?_, hb.frame _, fun h => by cases h⟩
  · rw [List.append_nil, hfn, hres]
    exact trodAll_mk1 (shut_bool htb true)
  · rw [List.append_nil, hfn]
    exact trodAll_below hl hb hr hA hlt
  · rw [List.append_nil, hfn, hvars]
    rfl

/-- A slice of bytes that came in. -/
theorem open_bytes {t e : TypeId} {r : Reach} {b0 : Nat} {w : World} {v : Value} {d : DataW H} {ps : List MemPlace} (ht : P.underlying t = some (.slice e)) (he : P.underlying e = some (.int .u8)) (hc : P.cellsOf e = 1)
    (hval : Value.okWide P w r b0 t v) (h : DataW.Trod enc P w 0 (fun _ => true) true t v d ps) (hlt : ∀ x ∈ ps, x.block < w.heap.size) :
    ∃ (A : Option Addr) (n c : Nat) (bs : List Nat), v = .slice A n c ∧ n ≤ c ∧ c ≤ 9223372036854775807 ∧ (∀ c ∈ bs, c < 256) ∧ Rd w w.heap.size 1 A n (bvs bs) := by
  obtain ⟨a, n, c, rfl⟩ := okWide_slice ht hval
  obtain ⟨fuel, hf⟩ := h
  rcases open_ints ht he hc hf with ⟨hcs, _⟩ | ⟨ad, len, cap, zs, hcs, _, hle, hmax, hzl, _, hcell, hwf⟩
  · simp [Value.cells] at hcs
    obtain ⟨rfl, rfl, rfl⟩ := hcs
    exact ⟨none, 0, 0, [], rfl, Nat.le_refl _, by omega, by simp, Rd.nil _ _ _ _⟩
  · simp [Value.cells] at hcs
    obtain ⟨rfl, rfl, rfl⟩ := hcs
    simp only [if_true] at hzl
    have hz : ∀ z ∈ zs, 0 ≤ z ∧ z ≤ 255 := fun z hz => by
      have := hwf z hz
      simpa [Lit.wf, IntKind.min, IntKind.max, IntKind.signed, IntKind.bits] using this
    refine ⟨some ad, n, c, (zs.take n).map Int.toNat, rfl, hle, by unfold maxLen at hmax; omega, ?_, ?_, ?_⟩
    · intro c hc
      obtain ⟨z, hm, rfl⟩ := List.mem_map.1 hc
      have := hz z (List.mem_of_mem_take hm)
      omega
    · simp [bvs]; omega
    · by_cases hn : n = 0
      · exact .inl hn
      · refine .inr ⟨ad, rfl, ?_, ?_⟩
        · have := World.block_lt_of_cell? _ _ (hcell 0 (by omega))
          rwa [add_block] at this
        · intro j u hu
          have hj : j < n := by
            have := (List.getElem?_eq_some_iff.1 hu).1
            simp [bvs] at this; omega
          rw [hcell j (by omega)]
          have hjz : j < zs.length := by omega
          have hb := hz zs[j] (List.getElem_mem hjz)
          simp [bvs, bv, hj, hjz] at hu
          rw [← hu]
          simp [List.getD, hjz]
          omega
end
end Go.Proofs.Ytkagonijkalicaa

/-
  More openers for a law's row: an array of two truths; a struct of bytes and a number.
-/
namespace Go.Proofs.Ytkagonijkalicaa
open Go.ChangeShapes Go.WideShapes Go.ChangeAt Go.RowKit

section
variable {H : Type} {enc : TypeId × Value → H} {P : Program}

/-- Bytes that came in, within something. -/
theorem open_bytes_in {t e : TypeId} {w : World} {v : Value} {fuel : Nat} {x : DataW H × List MemPlace} (ht : P.underlying t = some (.slice e)) (he : P.underlying e = some (.int .u8)) (hc : P.cellsOf e = 1)
    (h : DataW.trod enc P w 0 (fun _ => true) true fuel t [v] = some x) :
    ∃ (A : Option Addr) (n c : Nat) (bs : List Nat), v = .slice A n c ∧ n ≤ c ∧ c ≤ 9223372036854775807 ∧ (∀ c ∈ bs, c < 256) ∧ Rd w w.heap.size 1 A n (bvs bs) := by
  rcases open_ints ht he hc h with ⟨hcs, _⟩ | ⟨ad, len, cap, zs, hcs, _, hle, hmax, hzl, _, hcell, hwf⟩
  · simp only [List.cons.injEq, and_true] at hcs
    subst hcs
    exact ⟨none, 0, 0, [], rfl, Nat.le_refl _, by omega, by simp, Rd.nil _ _ _ _⟩
  · simp only [List.cons.injEq, and_true] at hcs
    subst hcs
    simp only [if_true] at hzl
    have hz : ∀ z ∈ zs, 0 ≤ z ∧ z ≤ 255 := fun z hz => by
      have := hwf z hz
      simpa [Lit.wf, IntKind.min, IntKind.max, IntKind.signed, IntKind.bits] using this
    refine ⟨some ad, len, cap, (zs.take len).map Int.toNat, rfl, hle, by unfold maxLen at hmax; omega, ?_, ?_, ?_⟩
    · intro c hc
      obtain ⟨z, hm, rfl⟩ := List.mem_map.1 hc
      have := hz z (List.mem_of_mem_take hm)
      omega
    · simp [bvs]; omega
    · by_cases hn : len = 0
      · exact .inl hn
      · refine .inr ⟨ad, rfl, ?_, ?_⟩
        · have := World.block_lt_of_cell? _ _ (hcell 0 (by omega))
          rwa [add_block] at this
        · intro j u hu
          have hj : j < len := by
            have := (List.getElem?_eq_some_iff.1 hu).1
            simp [bvs] at this; omega
          rw [hcell j (by omega)]
          have hjz : j < zs.length := by omega
          have hb := hz zs[j] (List.getElem_mem hjz)
          simp [bvs, bv, hj, hjz] at hu
          rw [← hu]
          simp [List.getD, hjz]
          omega

/-- Two truths by value. -/
theorem open_two {r : Reach} {b0 : Nat} {t e : TypeId} {w : World} {v : Value} {d : DataW H} {ps : List MemPlace} (ht : P.underlying t = some (.array 2 e)) (he : P.underlying e = some .bool) (hc : P.cellsOf e = 1) (hC : P.cellsOf t = 2)
    (hval : Value.okWide P w r b0 t v) (h : DataW.Trod enc P w 0 (fun _ => true) true t v d ps) : ∃ x y : Bool, v = .agg #[.bool x, .bool y] := by
  simp only [Value.okWide, ht] at hval
  obtain ⟨cs, rfl, hsz, _⟩ := hval
  obtain ⟨c0, c1, rfl⟩ := Joins.array2 (hsz.trans hC)
  obtain ⟨fuel, hf⟩ := h
  obtain ⟨xs, m, _, _, _, hl, hel⟩ := DataW.trod_array ht hf
  match xs, hl with
  | [x0, x1], _ =>
    have k0 := hel 0 (by omega)
    have k1 := hel 1 (by omega)
    simp only [hc, Value.cells, Nat.mul_one] at k0 k1
    obtain ⟨p0, q0, _⟩ := DataW.trod_bool he k0
    obtain ⟨p1, q1, _⟩ := DataW.trod_bool he k1
    simp at q0 q1
    exact ⟨p0, p1, by rw [q0, q1]⟩

/-- Bytes and a number by value. -/
theorem open_bytes_int {r : Reach} {b0 : Nat} {t e : TypeId} {f0 f1 : Field} {w : World} {v : Value} {d : DataW H} {ps : List MemPlace} (ht : P.underlying t = some (.struct #[f0, f1])) (hone : Deep.oneCellFields P #[f0, f1] = true) (hC : P.cellsOf t = 2)
    (h0 : P.underlying f0.type = some (.slice e)) (he : P.underlying e = some (.int .u8)) (hc : P.cellsOf e = 1) (h1 : P.underlying f1.type = some (.int .i64))
    (hval : Value.okWide P w r b0 t v) (h : DataW.Trod enc P w 0 (fun _ => true) true t v d ps) :
    ∃ (A : Option Addr) (n c : Nat) (bs : List Nat) (k : Int), v = .agg #[.slice A n c, .int .i64 k] ∧ n ≤ c ∧ c ≤ 9223372036854775807 ∧ (∀ c ∈ bs, c < 256) ∧ Rd w w.heap.size 1 A n (bvs bs) ∧
      -9223372036854775808 ≤ k ∧ k ≤ 9223372036854775807 := by
  obtain ⟨v0, v1, y0, y1, m, rfl, _, _, k0, k1⟩ := Joins.open_agg2 ht hone hC hval h
  obtain ⟨A, n, c, bs, rfl, hn, hc, hb, hr⟩ := open_bytes_in h0 he hc k0
  obtain ⟨k, q, _, hwf⟩ := DataW.trod_int h1 k1
  simp only [List.cons.injEq, and_true] at q
  subst q
  have hk : -9223372036854775808 ≤ k ∧ k ≤ 9223372036854775807 := by simpa [Lit.wf, IntKind.min, IntKind.max, IntKind.signed, IntKind.bits] using hwf
  exact ⟨A, n, c, bs, k, rfl, hn, hc, hb, hr, hk.1, hk.2⟩
end
end Go.Proofs.Ytkagonijkalicaa

/-
  A row of fields in memory: what it reads as; one that came in as an argument.
-/
namespace Go.Proofs.Ytkagonijkalicaa
open Go.ChangeShapes Go.WideShapes Go.ChangeAt Go.RowKit
open Tl (Fel)

/-- A field's cells: its bytes lie at S. -/
def fcells (f : Fel) (S : Option Addr × Nat) : List Value := [.int .i64 f.num, .int .i64 f.wire, .int .u64 f.n, .slice S.1 f.b.length S.2]
def rcells : List Fel → List (Option Addr × Nat) → List Value
  | f :: l, s :: S => fcells f s ++ rcells l S
  | _, _ => []
/-- A slice's address and length read as the fields l, whose bytes lie at S; all of it below block B. -/
def RdF (w : World) (B : Nat) (A : Option Addr) (n : Nat) (l : List Fel) (S : List (Option Addr × Nat)) : Prop :=
  l.length = n ∧ S.length = n ∧ Rd w B 4 A n (rcells l S) ∧ ∀ (k : Nat) (f : Fel) (s : Option Addr × Nat), l[k]? = some f → S[k]? = some s → Rd w B 1 s.1 f.b.length (bvs f.b) ∧ f.b.length ≤ s.2 ∧ s.2 ≤ 9223372036854775807

theorem rcells_len : ∀ (l : List Fel) (S : List (Option Addr × Nat)), S.length = l.length → (rcells l S).length = l.length * 4
  | [], [], _ => rfl
  | f :: l, s :: S, h => by
    rw [rcells, List.length_append, rcells_len l S (by simpa using h)]
    simp [fcells]; omega
theorem rcells_get : ∀ (l : List Fel) (S : List (Option Addr × Nat)) (k i : Nat) (f : Fel) (s : Option Addr × Nat), l[k]? = some f → S[k]? = some s → i < 4 → (rcells l S)[k * 4 + i]? = (fcells f s)[i]?
  | [], _, _, _, _, _, h, _, _ => by simp at h
  | _ :: _, [], _, _, _, _, _, h, _ => by simp at h
  | g :: l, t :: S, 0, i, f, s, h1, h2, h3 => by
    simp at h1 h2
    subst h1 h2
    rw [rcells, List.getElem?_append_left (by simp [fcells]; omega)]
    simp
  | g :: l, t :: S, k + 1, i, f, s, h1, h2, h3 => by
    simp at h1 h2
    rw [rcells, List.getElem?_append_right (by simp [fcells]; omega), ← rcells_get l S k i f s h1 h2 h3]
    congr 1
    simp [fcells]; omega

section
variable {w w' : World} {B B' n : Nat} {A : Option Addr} {l : List Fel} {S : List (Option Addr × Nat)}
theorem RdF.nil (w : World) (B : Nat) (A : Option Addr) : RdF w B A 0 [] [] := ⟨rfl, rfl, Rd.nil _ _ _ _, fun k f s h => by simp at h⟩
theorem RdF.below (h : RdF w B A n l S) (hb : Below B w w') : RdF w' B A n l S := ⟨h.1, h.2.1, h.2.2.1.below hb, fun k f s hf hs => ⟨(h.2.2.2 k f s hf hs).1.below hb, (h.2.2.2 k f s hf hs).2⟩⟩
theorem RdF.more (h : RdF w B A n l S) (hB : B ≤ B') : RdF w B' A n l S := ⟨h.1, h.2.1, h.2.2.1.more hB, fun k f s hf hs => ⟨(h.2.2.2 k f s hf hs).1.more hB, (h.2.2.2 k f s hf hs).2⟩⟩
theorem RdF.alloc (h : RdF w B A n l S) (hB : B ≤ w.heap.size) (o : Obj) : RdF (w.alloc o) B A n l S := ⟨h.1, h.2.1, h.2.2.1.alloc hB o, fun k f s hf hs => ⟨(h.2.2.2 k f s hf hs).1.alloc hB o, (h.2.2.2 k f s hf hs).2⟩⟩
/-- The k-th field. -/
theorem RdF.get (h : RdF w B A n l S) {k : Nat} (hk : k < n) : ∃ (ad : Addr) (f : Fel) (s : Option Addr × Nat), A = some ad ∧ ad.block < B ∧ l[k]? = some f ∧ S[k]? = some s ∧
    w.cell? (ad.add (k * 4)) = some (.int .i64 f.num) ∧ w.cell? (ad.add (k * 4 + 1)) = some (.int .i64 f.wire) ∧ w.cell? (ad.add (k * 4 + 2)) = some (.int .u64 f.n) ∧ w.cell? (ad.add (k * 4 + 3)) = some (.slice s.1 f.b.length s.2) ∧
    Rd w B 1 s.1 f.b.length (bvs f.b) ∧ f.b.length ≤ s.2 ∧ s.2 ≤ 9223372036854775807 := by
  obtain ⟨h1, h2, ⟨h3, h4⟩, h5⟩ := h
  rcases h4 with h0 | ⟨ad, hA, hb, hc⟩
  · omega
  obtain ⟨f, hf⟩ : ∃ f, l[k]? = some f := ⟨l[k]'(by omega), by simp⟩
  obtain ⟨s, hs⟩ : ∃ s, S[k]? = some s := ⟨S[k]'(by omega), by simp⟩
  have hg := fun i (hi : i < 4) => rcells_get l S k i f s hf hs hi
  exact ⟨ad, f, s, hA, hb, hf, hs, hc _ _ (by simpa [fcells] using hg 0 (by omega)), hc _ _ (by simpa [fcells] using hg 1 (by omega)), hc _ _ (by simpa [fcells] using hg 2 (by omega)), hc _ _ (by simpa [fcells] using hg 3 (by omega)), h5 k f s hf hs⟩
end
/-- The address behind another one, as a load of several cells spells it. -/
theorem add_spell (a : Addr) (k i : Nat) (hi : 0 < i) : (⟨(a.add k).block, (a.add k).off + i, none⟩ : Addr) = a.add (k + i) := by
  rw [← add_twice]
  generalize a.add k = b
  unfold Addr.add
  rw [if_neg (by omega)]
/-- .. its cells so spelled. -/
theorem RdF.spell {w : World} {B n : Nat} {A : Option Addr} {l : List Fel} {S : List (Option Addr × Nat)} (h : RdF w B A n l S) {k : Nat} (hk : k < n) : ∃ (ad : Addr) (f : Fel) (s : Option Addr × Nat), A = some ad ∧ ad.block < B ∧ l[k]? = some f ∧ S[k]? = some s ∧
    w.cell? (ad.add (k * 4)) = some (.int .i64 f.num) ∧ w.cell? ⟨(ad.add (k * 4)).block, (ad.add (k * 4)).off + 1, none⟩ = some (.int .i64 f.wire) ∧ w.cell? ⟨(ad.add (k * 4)).block, (ad.add (k * 4)).off + 2, none⟩ = some (.int .u64 f.n) ∧
    w.cell? ⟨(ad.add (k * 4)).block, (ad.add (k * 4)).off + 3, none⟩ = some (.slice s.1 f.b.length s.2) ∧
    Rd w B 1 s.1 f.b.length (bvs f.b) ∧ f.b.length ≤ s.2 ∧ s.2 ≤ 9223372036854775807 := by
  obtain ⟨ad, f, s, h1, h2, h3, h4, h5, h6, h7, h8, h9⟩ := h.get hk
  exact ⟨ad, f, s, h1, h2, h3, h4, h5, by rw [add_spell _ _ _ (by omega)]; exact h6, by rw [add_spell _ _ _ (by omega)]; exact h7, by rw [add_spell _ _ _ (by omega)]; exact h8, h9⟩

section
variable {H : Type} {enc : TypeId × Value → H} {P : Program}
/-- A row of fields that came in. -/
theorem open_fields {t e te : TypeId} {f0 f1 f2 f3 : Field} {r : Reach} {b0 : Nat} {w : World} {v : Value} {d : DataW H} {ps : List MemPlace} (ht : P.underlying t = some (.slice e)) (hs : P.underlying e = some (.struct #[f0, f1, f2, f3])) (hC : P.cellsOf e = 4)
    (o : f0.offset = 0 ∧ f1.offset = 1 ∧ f2.offset = 2 ∧ f3.offset = 3) (c : P.cellsOf f0.type = 1 ∧ P.cellsOf f1.type = 1 ∧ P.cellsOf f2.type = 1 ∧ P.cellsOf f3.type = 1)
    (h0 : P.underlying f0.type = some (.int .i64)) (h1 : P.underlying f1.type = some (.int .i64)) (h2 : P.underlying f2.type = some (.int .u64)) (h3 : P.underlying f3.type = some (.slice te)) (hte : P.underlying te = some (.int .u8)) (hce : P.cellsOf te = 1)
    (hval : Value.okWide P w r b0 t v) (h : DataW.Trod enc P w 0 (fun _ => true) true t v d ps) :
    ∃ (A : Option Addr) (n c : Nat) (l : List Fel) (S : List (Option Addr × Nat)), v = .slice A n c ∧ n ≤ c ∧ c ≤ 9223372036854775807 ∧ RdF w w.heap.size A n l S ∧
      ∀ f ∈ l, f.wf ∧ -9223372036854775808 ≤ f.num ∧ f.num ≤ 9223372036854775807 ∧ -9223372036854775808 ≤ f.wire ∧ f.wire ≤ 9223372036854775807 := by
  obtain ⟨a, n, cc, rfl⟩ := okWide_slice ht hval
  obtain ⟨fuel, hf⟩ := h
  rcases DataW.trod_slice ht hf with ⟨hcs, _⟩ | ⟨ad, len, cap, elems, rest, m, _, hcs, _, _, hle, hmax, hel, hget, _⟩
  · simp [Value.cells] at hcs
    obtain ⟨rfl, rfl, rfl⟩ := hcs
    exact ⟨none, 0, 0, [], [], rfl, Nat.le_refl _, by omega, RdF.nil _ _ _, by simp⟩
  · simp [Value.cells] at hcs
    obtain ⟨rfl, rfl, rfl⟩ := hcs
    have key : ∀ i, i < n → ∃ (f : Fel) (s : Option Addr × Nat), (∀ j, j < 4 → w.cell? (ad.add (i * 4 + j)) = (fcells f s)[j]?) ∧ (Rd w w.heap.size 1 s.1 f.b.length (bvs f.b) ∧ f.b.length ≤ s.2 ∧ s.2 ≤ 9223372036854775807) ∧
        f.wf ∧ -9223372036854775808 ≤ f.num ∧ f.num ≤ 9223372036854775807 ∧ -9223372036854775808 ≤ f.wire ∧ f.wire ≤ 9223372036854775807 := by
      intro i hi
      have hg := hget i hi
      have hi' : i < elems.length := by omega
      rw [hC, List.getElem?_eq_getElem hi', Option.bind_eq_some_iff] at hg
      obtain ⟨cs, hcs, htr⟩ := hg
      obtain ⟨_, hl4, hcell⟩ := World.cells?_some hcs
      obtain ⟨xs, m', _, _, _, hxl, hx⟩ := DataW.trod_struct hs htr
      match cs, hl4 with
      | [u0, u1, u2, u3], _ =>
        match xs, hxl with
        | [y0, y1, y2, y3], _ =>
          have g0 := hx 0 f0 rfl
          have g1 := hx 1 f1 rfl
          have g2 := hx 2 f2 rfl
          have g3 := hx 3 f3 rfl
          rw [o.1, c.1] at g0
          rw [o.2.1, c.2.1] at g1
          rw [o.2.2.1, c.2.2.1] at g2
          rw [o.2.2.2, c.2.2.2] at g3
          simp at g0 g1 g2 g3
          obtain ⟨z0, q0, _, w0⟩ := DataW.trod_int h0 g0
          obtain ⟨z1, q1, _, w1⟩ := DataW.trod_int h1 g1
          obtain ⟨z2, q2, _, w2⟩ := DataW.trod_int h2 g2
          obtain ⟨A', n', c', bs, rfl, hn', hc', hb', hr'⟩ := open_bytes_in h3 hte hce g3
          simp at q0 q1 q2
          subst q0 q1 q2
          have b0 : -9223372036854775808 ≤ z0 ∧ z0 ≤ 9223372036854775807 := by simpa [Lit.wf, IntKind.min, IntKind.max, IntKind.signed, IntKind.bits] using w0
          have b1 : -9223372036854775808 ≤ z1 ∧ z1 ≤ 9223372036854775807 := by simpa [Lit.wf, IntKind.min, IntKind.max, IntKind.signed, IntKind.bits] using w1
          have b2 : 0 ≤ z2 ∧ z2 ≤ 18446744073709551615 := by simpa [Lit.wf, IntKind.min, IntKind.max, IntKind.signed, IntKind.bits] using w2
          have hlen : bs.length = n' := by have := hr'.1; rw [bvs_len] at this; omega
          subst hlen
          refine ⟨⟨z0, z1, z2.toNat, bs⟩, (A', c'), fun j hj => ?_, ⟨hr', hn', hc'⟩, ⟨by show z2.toNat < _; omega, hb'⟩, b0.1, b0.2, b1.1, b1.2⟩
          have hc2 := hcell j hj
          rw [add_twice] at hc2
          rw [hc2]
          match j, hj with
          | 0, _ => rfl
          | 1, _ => rfl
          | 2, _ => simp [fcells, Int.toNat_of_nonneg b2.1]
          | 3, _ => rfl
    obtain ⟨l, S, hl, hS, hq⟩ := lists_of n key
    refine ⟨some ad, n, cc, l, S, rfl, hle, by unfold maxLen at hmax; omega, ⟨hl, hS, ⟨by rw [rcells_len l S (by omega), hl], ?_⟩, fun k f s hf hs => (hq k f s hf hs).2.1⟩, fun f hf => ?_⟩
    · by_cases hn : n = 0
      · exact .inl hn
      · refine .inr ⟨ad, rfl, ?_, ?_⟩
        · obtain ⟨f, hf⟩ : ∃ f, l[0]? = some f := ⟨l[0]'(by omega), by simp⟩
          obtain ⟨s, hs⟩ : ∃ s, S[0]? = some s := ⟨S[0]'(by omega), by simp⟩
          have := (hq 0 f s hf hs).1 0 (by omega)
          have h2 := World.block_lt_of_cell? _ _ (this.trans (by simp [fcells]; rfl))
          rwa [add_block] at h2
        · intro j u hu
          have hj : j < n * 4 := by
            have := (List.getElem?_eq_some_iff.1 hu).1
            rw [rcells_len l S (by omega), hl] at this
            exact this
          obtain ⟨f, hf⟩ : ∃ f, l[j / 4]? = some f := ⟨l[j / 4]'(by omega), by simp⟩
          obtain ⟨s, hs⟩ : ∃ s, S[j / 4]? = some s := ⟨S[j / 4]'(by omega), by simp⟩
          have h1 := rcells_get l S (j / 4) (j % 4) f s hf hs (by omega)
          have h2 := (hq _ f s hf hs).1 (j % 4) (by omega)
          have ej : j / 4 * 4 + j % 4 = j := by omega
          rw [ej] at h1 h2
          rw [h2, ← h1, hu]
    · obtain ⟨k, hk, rfl⟩ := List.getElem_of_mem hf
      obtain ⟨s, hs⟩ : ∃ s, S[k]? = some s := ⟨S[k]'(by omega), by simp⟩
      exact (hq k _ s (by simp) hs).2.2
end
end Go.Proofs.Ytkagonijkalicaa

/-
  Rows of fields in memory: plain facts for walks.
-/
namespace Go.Proofs.Ytkagonijkalicaa
open Go.RowKit
open Tl (Fel)

theorem bel_drewN {B : Nat} {a w : World} (h : Below B a w) (n : Nat) : Below B a (w.drewN n) := h.trans ⟨rfl, rfl, rfl, Nat.le_refl _, fun _ _ => rfl⟩
theorem field_info : (Try.prog.info? 55).map (fun i => (i.zero, i.size, i.bytes)) = some (some (.agg #[.int .i64 0, .int .i64 0, .int .u64 0, .slice none 0 0]), 4, 48) := by kernel_rfl

theorem fcells_one (f : Fel) (s : Option Addr × Nat) : ∀ u ∈ fcells f s, u.oneCell' = true := by
  intro u hu
  simp [fcells] at hu
  rcases hu with rfl | rfl | rfl | rfl <;> rfl
theorem rcells_app : ∀ (l m : List Fel) (S T : List (Option Addr × Nat)), S.length = l.length → rcells (l ++ m) (S ++ T) = rcells l S ++ rcells m T
  | [], _, [], _, _ => by simp [rcells]
  | f :: l, m, s :: S, T, h => by
    simp only [List.cons_append, rcells, List.append_assoc]
    rw [rcells_app l m S T (by simpa using h)]
theorem rcells_one (f : Fel) (s : Option Addr × Nat) : rcells [f] [s] = fcells f s := by simp [rcells]

theorem cells4_new (w : World) (a b c d : Value) (t : TypeId) : ∀ j u, [a, b, c, d][j]? = some u → (w.alloc (.cells #[a, b, c, d] t)).cell? ((⟨w.heap.size, 0, none⟩ : Addr).add j) = some u := by
  intro j u hj
  have hlt := (List.getElem?_eq_some_iff.1 hj).1
  have hadd : (⟨w.heap.size, 0, none⟩ : Addr).add j = ⟨w.heap.size, j, none⟩ := by unfold Addr.add; split <;> simp_all
  rw [hadd, (Blk.new w #[a, b, c, d] t).cell]
  simpa using hj

theorem few_one (x y z : Int) (A : Option Addr) (n c : Nat) : ∀ u ∈ [Value.int .i64 x, .int .i64 y, .int .u64 z, .slice A n c], u.oneCell' = true := by
  intro u hu
  simp at hu
  rcases hu with rfl | rfl | rfl | rfl <;> rfl
theorem rcells_one4 : ∀ (l : List Fel) (S : List (Option Addr × Nat)), ∀ u ∈ rcells l S, u.oneCell' = true
  | [], _, u, h => by simp [rcells] at h
  | _ :: _, [], u, h => by simp [rcells] at h
  | f :: l, s :: S, u, h => by
    rw [rcells] at h
    rcases List.mem_append.1 h with h | h
    · exact fcells_one f s u h
    · exact rcells_one4 l S u h
theorem RdF.of_own {w : World} {base : Nat} {e : TypeId} {n B : Nat} {v : Value} {l : List Fel} {S : List (Option Addr × Nat)} (h : w.ownsRow base e 4 v n (rcells l S)) (hl : l.length = n) (hS : S.length = n) (hB : B ≤ w.heap.size)
    (hb : ∀ (k : Nat) (f : Fel) (s : Option Addr × Nat), l[k]? = some f → S[k]? = some s → Rd w B 1 s.1 f.b.length (bvs f.b) ∧ f.b.length ≤ s.2 ∧ s.2 ≤ 9223372036854775807) :
    ∃ (A : Option Addr) (c : Nat), v = .slice A n c ∧ n ≤ c ∧ c ≤ 9223372036854775807 ∧ RdF w w.heap.size A n l S := by
  obtain ⟨A, c, rfl, h1, h2⟩ := slice_of_own h
  exact ⟨A, c, rfl, h1, h2, hl, hS, Rd.of_own h, fun k f s hf hs => ⟨(hb k f s hf hs).1.more hB, (hb k f s hf hs).2⟩⟩
theorem own_cap {w : World} {base : Nat} {e : TypeId} {size n m c : Nat} {A : Option Addr} {xs : List Value} (h : w.ownsRow base e size (.slice A m c) n xs) : n ≤ c ∧ c ≤ 9223372036854775807 := by
  obtain ⟨A', c', hv, h1, h2⟩ := slice_of_own h
  cases hv
  exact ⟨h1, h2⟩
/-- A value that is a slice of these fields. -/
def NewRow (w : World) (l : List Fel) (v : Value) : Prop := ∃ (A : Option Addr) (n c : Nat) (S : List (Option Addr × Nat)), v = .slice A n c ∧ n ≤ c ∧ c ≤ 9223372036854775807 ∧ RdF w w.heap.size A n l S
theorem NewRow.below {w w' : World} {l : List Fel} {v : Value} (h : NewRow w l v) (hb : Below w.heap.size w w') : NewRow w' l v := by
  obtain ⟨A, n, c, S, h1, h2, h3, h4⟩ := h
  exact ⟨A, n, c, S, h1, h2, h3, (h4.below hb).more hb.size⟩
end Go.Proofs.Ytkagonijkalicaa

/-
  The walk of the reference's falls.
-/
namespace Go.Proofs.Ytkagonijkalicaa
open Go.RowKit
open Tl (Fel)

/-- A field as a value. -/
def aggOf (f : Fel) (s : Option Addr × Nat) : Value := .agg #[.int .i64 f.num, .int .i64 f.wire, .int .u64 (f.n : Int), .slice s.1 f.b.length s.2]

set_option maxHeartbeats 1000000 in
set_option maxRecDepth 100000 in
theorem falls_any (a b : Fel) (s t : Option Addr × Nat) (w : World) :
    Calls Try.prog 80 #[aggOf a s, aggOf b t] w fun e w' => e = .returned (.bool (Tl.falls a b)) ∧ Below w.heap.size w w' := by
  unfold aggOf
  by_cases h1 : b.num < a.num
  · have hf : Tl.falls a b = true := by simp [Tl.falls, h1]
    have HF := Lib.hid hf
    clear hf
    go_enter Try.func80, Try.ntmps80
    go_wp2_with fail
    go_ret
    exact ⟨by rw [HF.out]; rfl, ((Below.refl _ _).alloc (Nat.le_refl _) _).alloc (by simp) _⟩
  · by_cases h2 : b.num = a.num
    · by_cases h3 : a.wire = 2
      · by_cases h4 : b.wire = 2
        · have hf : Tl.falls a b = false := by simp [Tl.falls, h1, h2, h3, h4]
          have HF := Lib.hid hf
          have q2 : (b.num == a.num) = true := by rw [h2]; simp
          have q3 : (a.wire != 2) = false := by rw [h3]; rfl
          have q4 : (b.wire != 2) = false := by rw [h4]; rfl
          clear hf h2 h3 h4
          go_enter Try.func80, Try.ntmps80
          go_wp2_with fail
          go_ret
          exact ⟨by rw [HF.out]; rfl, ((Below.refl _ _).alloc (Nat.le_refl _) _).alloc (by simp) _⟩
        · have hf : Tl.falls a b = true := by simp [Tl.falls, h2, h4]
          have HF := Lib.hid hf
          have q2 : (b.num == a.num) = true := by rw [h2]; simp
          have q3 : (a.wire != 2) = false := by rw [h3]; rfl
          have q4 : (b.wire != 2) = true := by rw [bne_iff_ne]; exact h4
          clear hf h2 h3 h4
          go_enter Try.func80, Try.ntmps80
          go_wp2_with fail
          go_ret
          exact ⟨by rw [HF.out]; rfl, ((Below.refl _ _).alloc (Nat.le_refl _) _).alloc (by simp) _⟩
      · have hf : Tl.falls a b = true := by simp [Tl.falls, h2, h3]
        have HF := Lib.hid hf
        have q2 : (b.num == a.num) = true := by rw [h2]; simp
        have q3 : (a.wire != 2) = true := by rw [bne_iff_ne]; exact h3
        clear hf h2 h3
        go_enter Try.func80, Try.ntmps80
        go_wp2_with fail
        go_ret
        exact ⟨by rw [HF.out]; rfl, ((Below.refl _ _).alloc (Nat.le_refl _) _).alloc (by simp) _⟩
    · have hf : Tl.falls a b = false := by simp [Tl.falls, h1, h2]
      have HF := Lib.hid hf
      have q2 : (b.num == a.num) = false := by rw [beq_eq_false_iff_ne]; exact h2
      clear hf h2
      go_enter Try.func80, Try.ntmps80
      go_wp2_with fail
      go_ret
      exact ⟨by rw [HF.out]; rfl, ((Below.refl _ _).alloc (Nat.le_refl _) _).alloc (by simp) _⟩
end Go.Proofs.Ytkagonijkalicaa
