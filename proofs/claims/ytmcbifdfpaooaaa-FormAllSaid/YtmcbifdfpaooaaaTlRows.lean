/-
  A row of fields in memory: what it reads as; one that came in as an argument.
-/
import Derived.Test.YtmcbifdfpaooaaaOpen
import Derived.Test.YtmcbifdfpaooaaaTlPlain
namespace Go.Proofs.Ytmcbifdfpaooaaa
open Go.ChangeShapes Go.WideShapes Go.ChangeAt Go.RowKit
open Tl (Fel)

/-- A field's cells: its bytes lie at S. -/
def fcells (f : Fel) (S : Option Addr × Nat) : List Value := [.int .i64 f.num, .int .i64 f.wire, .int .u64 f.n, .slice S.1 f.b.length S.2]
def rcells : List Fel → List (Option Addr × Nat) → List Value
  | f :: l, s :: S => fcells f s ++ rcells l S
  | _, _ => []
/-- A slice's address and length read as the fields l, whose bytes lie at S; all of it below block B. -/
def RdF (w : World) (B : Nat) (A : Option Addr) (n : Nat) (l : List Fel) (S : List (Option Addr × Nat)) : Prop :=
  l.length = n ∧ S.length = n ∧ Rd w B 4 A n (rcells l S) ∧ ∀ (k : Nat) (f : Fel) (s : Option Addr × Nat), l[k]? = some f → S[k]? = some s → Rd w B 1 s.1 f.b.length (bvs f.b) ∧ f.b.length ≤ s.2 ∧ s.2 ≤ 9223372036854775807

theorem rcells_len : ∀ (l : List Fel) (S : List (Option Addr × Nat)), S.length = l.length → (rcells l S).length = l.length * 4
  | [], [], _ => rfl
  | f :: l, s :: S, h => by
    rw [rcells, List.length_append, rcells_len l S (by simpa using h)]
    simp [fcells]; omega
theorem rcells_get : ∀ (l : List Fel) (S : List (Option Addr × Nat)) (k i : Nat) (f : Fel) (s : Option Addr × Nat), l[k]? = some f → S[k]? = some s → i < 4 → (rcells l S)[k * 4 + i]? = (fcells f s)[i]?
  | [], _, _, _, _, _, h, _, _ => by simp at h
  | _ :: _, [], _, _, _, _, _, h, _ => by simp at h
  | g :: l, t :: S, 0, i, f, s, h1, h2, h3 => by
    simp at h1 h2
    subst h1 h2
    rw [rcells, List.getElem?_append_left (by simp [fcells]; omega)]
    simp
  | g :: l, t :: S, k + 1, i, f, s, h1, h2, h3 => by
    simp at h1 h2
    rw [rcells, List.getElem?_append_right (by simp [fcells]; omega), ← rcells_get l S k i f s h1 h2 h3]
    congr 1
    simp [fcells]; omega

section
variable {w w' : World} {B B' n : Nat} {A : Option Addr} {l : List Fel} {S : List (Option Addr × Nat)}
theorem RdF.nil (w : World) (B : Nat) (A : Option Addr) : RdF w B A 0 [] [] := ⟨rfl, rfl, Rd.nil _ _ _ _, fun k f s h => by simp at h⟩
theorem RdF.below (h : RdF w B A n l S) (hb : Below B w w') : RdF w' B A n l S := ⟨h.1, h.2.1, h.2.2.1.below hb, fun k f s hf hs => ⟨(h.2.2.2 k f s hf hs).1.below hb, (h.2.2.2 k f s hf hs).2⟩⟩
theorem RdF.more (h : RdF w B A n l S) (hB : B ≤ B') : RdF w B' A n l S := ⟨h.1, h.2.1, h.2.2.1.more hB, fun k f s hf hs => ⟨(h.2.2.2 k f s hf hs).1.more hB, (h.2.2.2 k f s hf hs).2⟩⟩
theorem RdF.alloc (h : RdF w B A n l S) (hB : B ≤ w.heap.size) (o : Obj) : RdF (w.alloc o) B A n l S := ⟨h.1, h.2.1, h.2.2.1.alloc hB o, fun k f s hf hs => ⟨(h.2.2.2 k f s hf hs).1.alloc hB o, (h.2.2.2 k f s hf hs).2⟩⟩
/-- The k-th field. -/
theorem RdF.get (h : RdF w B A n l S) {k : Nat} (hk : k < n) : ∃ (ad : Addr) (f : Fel) (s : Option Addr × Nat), A = some ad ∧ ad.block < B ∧ l[k]? = some f ∧ S[k]? = some s ∧
    w.cell? (ad.add (k * 4)) = some (.int .i64 f.num) ∧ w.cell? (ad.add (k * 4 + 1)) = some (.int .i64 f.wire) ∧ w.cell? (ad.add (k * 4 + 2)) = some (.int .u64 f.n) ∧ w.cell? (ad.add (k * 4 + 3)) = some (.slice s.1 f.b.length s.2) ∧
    Rd w B 1 s.1 f.b.length (bvs f.b) ∧ f.b.length ≤ s.2 ∧ s.2 ≤ 9223372036854775807 := by
  obtain ⟨h1, h2, ⟨h3, h4⟩, h5⟩ := h
  rcases h4 with h0 | ⟨ad, hA, hb, hc⟩
  · omega
  obtain ⟨f, hf⟩ : ∃ f, l[k]? = some f := ⟨l[k]'(by omega), by simp⟩
  obtain ⟨s, hs⟩ : ∃ s, S[k]? = some s := ⟨S[k]'(by omega), by simp⟩
  have hg := fun i (hi : i < 4) => rcells_get l S k i f s hf hs hi
  exact ⟨ad, f, s, hA, hb, hf, hs, hc _ _ (by simpa [fcells] using hg 0 (by omega)), hc _ _ (by simpa [fcells] using hg 1 (by omega)), hc _ _ (by simpa [fcells] using hg 2 (by omega)), hc _ _ (by simpa [fcells] using hg 3 (by omega)), h5 k f s hf hs⟩
end
/-- The address behind another one, as a load of several cells spells it. -/
theorem add_spell (a : Addr) (k i : Nat) (hi : 0 < i) : (⟨(a.add k).block, (a.add k).off + i, none⟩ : Addr) = a.add (k + i) := by
  rw [← add_twice]
  generalize a.add k = b
  unfold Addr.add
  rw [if_neg (by omega)]
/-- .. its cells so spelled. -/
theorem RdF.spell {w : World} {B n : Nat} {A : Option Addr} {l : List Fel} {S : List (Option Addr × Nat)} (h : RdF w B A n l S) {k : Nat} (hk : k < n) : ∃ (ad : Addr) (f : Fel) (s : Option Addr × Nat), A = some ad ∧ ad.block < B ∧ l[k]? = some f ∧ S[k]? = some s ∧
    w.cell? (ad.add (k * 4)) = some (.int .i64 f.num) ∧ w.cell? ⟨(ad.add (k * 4)).block, (ad.add (k * 4)).off + 1, none⟩ = some (.int .i64 f.wire) ∧ w.cell? ⟨(ad.add (k * 4)).block, (ad.add (k * 4)).off + 2, none⟩ = some (.int .u64 f.n) ∧
    w.cell? ⟨(ad.add (k * 4)).block, (ad.add (k * 4)).off + 3, none⟩ = some (.slice s.1 f.b.length s.2) ∧
    Rd w B 1 s.1 f.b.length (bvs f.b) ∧ f.b.length ≤ s.2 ∧ s.2 ≤ 9223372036854775807 := by
  obtain ⟨ad, f, s, h1, h2, h3, h4, h5, h6, h7, h8, h9⟩ := h.get hk
  exact ⟨ad, f, s, h1, h2, h3, h4, h5, by rw [add_spell _ _ _ (by omega)]; exact h6, by rw [add_spell _ _ _ (by omega)]; exact h7, by rw [add_spell _ _ _ (by omega)]; exact h8, h9⟩

section
variable {H : Type} {enc : TypeId × Value → H} {P : Program}
/-- A row of fields that came in. -/
theorem open_fields {t e te : TypeId} {f0 f1 f2 f3 : Field} {r : Reach} {b0 : Nat} {w : World} {v : Value} {d : DataW H} {ps : List MemPlace} (ht : P.underlying t = some (.slice e)) (hs : P.underlying e = some (.struct #[f0, f1, f2, f3])) (hC : P.cellsOf e = 4)
    (o : f0.offset = 0 ∧ f1.offset = 1 ∧ f2.offset = 2 ∧ f3.offset = 3) (c : P.cellsOf f0.type = 1 ∧ P.cellsOf f1.type = 1 ∧ P.cellsOf f2.type = 1 ∧ P.cellsOf f3.type = 1)
    (h0 : P.underlying f0.type = some (.int .i64)) (h1 : P.underlying f1.type = some (.int .i64)) (h2 : P.underlying f2.type = some (.int .u64)) (h3 : P.underlying f3.type = some (.slice te)) (hte : P.underlying te = some (.int .u8)) (hce : P.cellsOf te = 1)
    (hval : Value.okWide P w r b0 t v) (h : DataW.Trod enc P w 0 (fun _ => true) true t v d ps) :
    ∃ (A : Option Addr) (n c : Nat) (l : List Fel) (S : List (Option Addr × Nat)), v = .slice A n c ∧ n ≤ c ∧ c ≤ 9223372036854775807 ∧ RdF w w.heap.size A n l S ∧
      ∀ f ∈ l, f.wf ∧ -9223372036854775808 ≤ f.num ∧ f.num ≤ 9223372036854775807 ∧ -9223372036854775808 ≤ f.wire ∧ f.wire ≤ 9223372036854775807 := by
  obtain ⟨a, n, cc, rfl⟩ := okWide_slice ht hval
  obtain ⟨fuel, hf⟩ := h
  rcases DataW.trod_slice ht hf with ⟨hcs, _⟩ | ⟨ad, len, cap, elems, rest, m, _, hcs, _, _, hle, hmax, hel, hget, _⟩
  · simp [Value.cells] at hcs
    obtain ⟨rfl, rfl, rfl⟩ := hcs
    exact ⟨none, 0, 0, [], [], rfl, Nat.le_refl _, by omega, RdF.nil _ _ _, by simp⟩
  · simp [Value.cells] at hcs
    obtain ⟨rfl, rfl, rfl⟩ := hcs
    have key : ∀ i, i < n → ∃ (f : Fel) (s : Option Addr × Nat), (∀ j, j < 4 → w.cell? (ad.add (i * 4 + j)) = (fcells f s)[j]?) ∧ (Rd w w.heap.size 1 s.1 f.b.length (bvs f.b) ∧ f.b.length ≤ s.2 ∧ s.2 ≤ 9223372036854775807) ∧
        f.wf ∧ -9223372036854775808 ≤ f.num ∧ f.num ≤ 9223372036854775807 ∧ -9223372036854775808 ≤ f.wire ∧ f.wire ≤ 9223372036854775807 := by
      intro i hi
      have hg := hget i hi
      have hi' : i < elems.length := by omega
      rw [hC, List.getElem?_eq_getElem hi', Option.bind_eq_some_iff] at hg
      obtain ⟨cs, hcs, htr⟩ := hg
      obtain ⟨_, hl4, hcell⟩ := World.cells?_some hcs
      obtain ⟨xs, m', _, _, _, hxl, hx⟩ := DataW.trod_struct hs htr
      match cs, hl4 with
      | [u0, u1, u2, u3], _ =>
        match xs, hxl with
        | [y0, y1, y2, y3], _ =>
          have g0 := hx 0 f0 rfl
          have g1 := hx 1 f1 rfl
          have g2 := hx 2 f2 rfl
          have g3 := hx 3 f3 rfl
          rw [o.1, c.1] at g0
          rw [o.2.1, c.2.1] at g1
          rw [o.2.2.1, c.2.2.1] at g2
          rw [o.2.2.2, c.2.2.2] at g3
          simp at g0 g1 g2 g3
          obtain ⟨z0, q0, _, w0⟩ := DataW.trod_int h0 g0
          obtain ⟨z1, q1, _, w1⟩ := DataW.trod_int h1 g1
          obtain ⟨z2, q2, _, w2⟩ := DataW.trod_int h2 g2
          obtain ⟨A', n', c', bs, rfl, hn', hc', hb', hr'⟩ := open_bytes_in h3 hte hce g3
          simp at q0 q1 q2
          subst q0 q1 q2
          have b0 : -9223372036854775808 ≤ z0 ∧ z0 ≤ 9223372036854775807 := by simpa [Lit.wf, IntKind.min, IntKind.max, IntKind.signed, IntKind.bits] using w0
          have b1 : -9223372036854775808 ≤ z1 ∧ z1 ≤ 9223372036854775807 := by simpa [Lit.wf, IntKind.min, IntKind.max, IntKind.signed, IntKind.bits] using w1
          have b2 : 0 ≤ z2 ∧ z2 ≤ 18446744073709551615 := by simpa [Lit.wf, IntKind.min, IntKind.max, IntKind.signed, IntKind.bits] using w2
          have hlen : bs.length = n' := by have := hr'.1; rw [bvs_len] at this; omega
          subst hlen
          refine ⟨⟨z0, z1, z2.toNat, bs⟩, (A', c'), fun j hj => ?_, ⟨hr', hn', hc'⟩, ⟨by show z2.toNat < _; omega, hb'⟩, b0.1, b0.2, b1.1, b1.2⟩
          have hc2 := hcell j hj
          rw [add_twice] at hc2
          rw [hc2]
          match j, hj with
          | 0, _ => rfl
          | 1, _ => rfl
          | 2, _ => simp [fcells, Int.toNat_of_nonneg b2.1]
          | 3, _ => rfl
    obtain ⟨l, S, hl, hS, hq⟩ := lists_of n key
    refine ⟨some ad, n, cc, l, S, rfl, hle, by unfold maxLen at hmax; omega, ⟨hl, hS, ⟨by rw [rcells_len l S (by omega), hl], ?_⟩, fun k f s hf hs => (hq k f s hf hs).2.1⟩, fun f hf => ?_⟩
    · by_cases hn : n = 0
      · exact .inl hn
      · refine .inr ⟨ad, rfl, ?_, ?_⟩
        · obtain ⟨f, hf⟩ : ∃ f, l[0]? = some f := ⟨l[0]'(by omega), by simp⟩
          obtain ⟨s, hs⟩ : ∃ s, S[0]? = some s := ⟨S[0]'(by omega), by simp⟩
          have := (hq 0 f s hf hs).1 0 (by omega)
          have h2 := World.block_lt_of_cell? _ _ (this.trans (by simp [fcells]; rfl))
          rwa [add_block] at h2
        · intro j u hu
          have hj : j < n * 4 := by
            have := (List.getElem?_eq_some_iff.1 hu).1
            rw [rcells_len l S (by omega), hl] at this
            exact this
          obtain ⟨f, hf⟩ : ∃ f, l[j / 4]? = some f := ⟨l[j / 4]'(by omega), by simp⟩
          obtain ⟨s, hs⟩ : ∃ s, S[j / 4]? = some s := ⟨S[j / 4]'(by omega), by simp⟩
          have h1 := rcells_get l S (j / 4) (j % 4) f s hf hs (by omega)
          have h2 := (hq _ f s hf hs).1 (j % 4) (by omega)
          have ej : j / 4 * 4 + j % 4 = j := by omega
          rw [ej] at h1 h2
          rw [h2, ← h1, hu]
    · obtain ⟨k, hk, rfl⟩ := List.getElem_of_mem hf
      obtain ⟨s, hs⟩ : ∃ s, S[k]? = some s := ⟨S[k]'(by omega), by simp⟩
      exact (hq k _ s (by simp) hs).2.2
end
end Go.Proofs.Ytmcbifdfpaooaaa
