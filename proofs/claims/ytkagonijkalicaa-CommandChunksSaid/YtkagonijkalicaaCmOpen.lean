/-
  Commands, rows of numbers, and fields beside a version, that came in as arguments.
-/
import Derived.Test.YtkagonijkalicaaMgB
import Derived.Test.YtkagonijkalicaaNumsOpen
import Derived.Test.YtkagonijkalicaaCmMay
import Derived.Lib.SmallJoins
set_option linter.unusedVariables false
set_option linter.unusedSimpArgs false
namespace Go.Proofs.Ytkagonijkalicaa
open Go.ChangeShapes Go.WideShapes Go.ChangeAt Go.RowKit
open Tl (Fel)
open Cm (Cmd)

theorem array8 {α : Type} {cs : Array α} (h : cs.size = 8) : ∃ c0 c1 c2 c3 c4 c5 c6 c7, cs = #[c0, c1, c2, c3, c4, c5, c6, c7] := by
  obtain ⟨l⟩ := cs
  match l, h with
  | [c0, c1, c2, c3, c4, c5, c6, c7], _ => exact ⟨c0, c1, c2, c3, c4, c5, c6, c7, rfl⟩
section
variable {H : Type} {enc : TypeId × Value → H} {P : Program}
/-- A row of fields that came in. -/
theorem open_fields_in {t e te : TypeId} {f0 f1 f2 f3 : Field} {w : World} {v : Value} {fuel : Nat} {xx : DataW H × List MemPlace} (ht : P.underlying t = some (.slice e)) (hs : P.underlying e = some (.struct #[f0, f1, f2, f3])) (hC : P.cellsOf e = 4)
    (o : f0.offset = 0 ∧ f1.offset = 1 ∧ f2.offset = 2 ∧ f3.offset = 3) (c : P.cellsOf f0.type = 1 ∧ P.cellsOf f1.type = 1 ∧ P.cellsOf f2.type = 1 ∧ P.cellsOf f3.type = 1)
    (h0 : P.underlying f0.type = some (.int .i64)) (h1 : P.underlying f1.type = some (.int .i64)) (h2 : P.underlying f2.type = some (.int .u64)) (h3 : P.underlying f3.type = some (.slice te)) (hte : P.underlying te = some (.int .u8)) (hce : P.cellsOf te = 1)
    (hf : DataW.trod enc P w 0 (fun _ => true) true fuel t [v] = some xx) :
    ∃ (A : Option Addr) (n c : Nat) (l : List Fel) (S : List (Option Addr × Nat)), v = .slice A n c ∧ n ≤ c ∧ c ≤ 9223372036854775807 ∧ RdF w w.heap.size A n l S ∧
      ∀ f ∈ l, f.wf ∧ -9223372036854775808 ≤ f.num ∧ f.num ≤ 9223372036854775807 ∧ -9223372036854775808 ≤ f.wire ∧ f.wire ≤ 9223372036854775807 := by
  rcases DataW.trod_slice ht hf with ⟨hcs, _⟩ | ⟨ad, n, cc, elems, rest, m, _, hcs, _, _, hle, hmax, hel, hget, _⟩
  · simp at hcs
    subst hcs
    exact ⟨none, 0, 0, [], [], rfl, Nat.le_refl _, by omega, RdF.nil _ _ _, by simp⟩
  · simp at hcs
    subst hcs
    have key : ∀ i, i < n → ∃ (f : Fel) (s : Option Addr × Nat), (∀ j, j < 4 → w.cell? (ad.add (i * 4 + j)) = (fcells f s)[j]?) ∧ (Rd w w.heap.size 1 s.1 f.b.length (bvs f.b) ∧ f.b.length ≤ s.2 ∧ s.2 ≤ 9223372036854775807) ∧
        f.wf ∧ -9223372036854775808 ≤ f.num ∧ f.num ≤ 9223372036854775807 ∧ -9223372036854775808 ≤ f.wire ∧ f.wire ≤ 9223372036854775807 := by
      intro i hi
      have hg := hget i hi
      have hi' : i < elems.length := by omega
      rw [hC, List.getElem?_eq_getElem hi', Option.bind_eq_some_iff] at hg
      obtain ⟨cs, hcs, htr⟩ := hg
      obtain ⟨_, hl4, hcell⟩ := World.cells?_some hcs
      obtain ⟨xs, m', _, _, _, hxl, hx⟩ := DataW.trod_struct hs htr
      match cs, hl4 with
      | [u0, u1, u2, u3], _ =>
        match xs, hxl with
        | [y0, y1, y2, y3], _ =>
          have g0 := hx 0 f0 rfl
          have g1 := hx 1 f1 rfl
          have g2 := hx 2 f2 rfl
          have g3 := hx 3 f3 rfl
          rw [o.1, c.1] at g0
          rw [o.2.1, c.2.1] at g1
          rw [o.2.2.1, c.2.2.1] at g2
          rw [o.2.2.2, c.2.2.2] at g3
          simp at g0 g1 g2 g3
          obtain ⟨z0, q0, _, w0⟩ := DataW.trod_int h0 g0
          obtain ⟨z1, q1, _, w1⟩ := DataW.trod_int h1 g1
          obtain ⟨z2, q2, _, w2⟩ := DataW.trod_int h2 g2
          obtain ⟨A', n', c', bs, rfl, hn', hc', hb', hr'⟩ := open_bytes_in h3 hte hce g3
          simp at q0 q1 q2
          subst q0 q1 q2
          have b0 : -9223372036854775808 ≤ z0 ∧ z0 ≤ 9223372036854775807 := by simpa [Lit.wf, IntKind.min, IntKind.max, IntKind.signed, IntKind.bits] using w0
          have b1 : -9223372036854775808 ≤ z1 ∧ z1 ≤ 9223372036854775807 := by simpa [Lit.wf, IntKind.min, IntKind.max, IntKind.signed, IntKind.bits] using w1
          have b2 : 0 ≤ z2 ∧ z2 ≤ 18446744073709551615 := by simpa [Lit.wf, IntKind.min, IntKind.max, IntKind.signed, IntKind.bits] using w2
          have hlen : bs.length = n' := by have := hr'.1; rw [bvs_len] at this; omega
          subst hlen
          refine ⟨⟨z0, z1, z2.toNat, bs⟩, (A', c'), fun j hj => ?_, ⟨hr', hn', hc'⟩, ⟨by show z2.toNat < _; omega, hb'⟩, b0.1, b0.2, b1.1, b1.2⟩
          have hc2 := hcell j hj
          rw [add_twice] at hc2
          rw [hc2]
          match j, hj with
          | 0, _ => rfl
          | 1, _ => rfl
          | 2, _ => simp [fcells, Int.toNat_of_nonneg b2.1]
          | 3, _ => rfl
    obtain ⟨l, S, hl, hS, hq⟩ := lists_of n key
    refine ⟨some ad, n, cc, l, S, rfl, hle, by unfold maxLen at hmax; omega, ⟨hl, hS, ⟨by rw [rcells_len l S (by omega), hl], ?_⟩, fun k f s hf hs => (hq k f s hf hs).2.1⟩, fun f hf => ?_⟩
    · by_cases hn : n = 0
      · exact .inl hn
      · refine .inr ⟨ad, rfl, ?_, ?_⟩
        · obtain ⟨f, hf⟩ : ∃ f, l[0]? = some f := ⟨l[0]'(by omega), by simp⟩
          obtain ⟨s, hs⟩ : ∃ s, S[0]? = some s := ⟨S[0]'(by omega), by simp⟩
          have := (hq 0 f s hf hs).1 0 (by omega)
          have h2 := World.block_lt_of_cell? _ _ (this.trans (by simp [fcells]; rfl))
          rwa [add_block] at h2
        · intro j u hu
          have hj : j < n * 4 := by
            have := (List.getElem?_eq_some_iff.1 hu).1
            rw [rcells_len l S (by omega), hl] at this
            exact this
          obtain ⟨f, hf⟩ : ∃ f, l[j / 4]? = some f := ⟨l[j / 4]'(by omega), by simp⟩
          obtain ⟨s, hs⟩ : ∃ s, S[j / 4]? = some s := ⟨S[j / 4]'(by omega), by simp⟩
          have h1 := rcells_get l S (j / 4) (j % 4) f s hf hs (by omega)
          have h2 := (hq _ f s hf hs).1 (j % 4) (by omega)
          have ej : j / 4 * 4 + j % 4 = j := by omega
          rw [ej] at h1 h2
          rw [h2, ← h1, hu]
    · obtain ⟨k, hk, rfl⟩ := List.getElem_of_mem hf
      obtain ⟨s, hs⟩ : ∃ s, S[k]? = some s := ⟨S[k]'(by omega), by simp⟩
      exact (hq k _ s (by simp) hs).2.2

/-- A command by value. -/
theorem open_cmd {r : Reach} {b0 : Nat} {t te : TypeId} {f0 f1 f2 f3 f4 f5 f6 f7 : Field} {w : World} {v : Value} {d : DataW H} {ps : List MemPlace} (hs : P.underlying t = some (.struct #[f0, f1, f2, f3, f4, f5, f6, f7])) (hone : Deep.oneCellFields P #[f0, f1, f2, f3, f4, f5, f6, f7] = true) (hC : P.cellsOf t = 8)
    (h0 : P.underlying f0.type = some (.int .i64)) (h1 : P.underlying f1.type = some (.int .i64)) (h2 : P.underlying f2.type = some (.int .i64)) (h3 : P.underlying f3.type = some (.int .i64)) (h4 : P.underlying f4.type = some (.int .i64)) (h5 : P.underlying f5.type = some (.int .i64))
    (h6 : P.underlying f6.type = some (.slice te)) (hte : P.underlying te = some (.int .i64)) (hce : P.cellsOf te = 1) (h7 : P.underlying f7.type = some .string)
    (hval : Value.okWide P w r b0 t v) (h : DataW.Trod enc P w 0 (fun _ => true) true t v d ps) :
    ∃ (c : Cmd) (s : Option Addr × Nat), v = cagg c s ∧ RdC w w.heap.size c s ∧ (I64 c.kind ∧ I64 c.client ∧ I64 c.seq ∧ I64 c.set ∧ I64 c.id ∧ I64 c.n) ∧ (∀ x ∈ c.chunks, I64 x) ∧ (∀ b ∈ c.text, b < 256) ∧ c.text.length ≤ 9223372036854775807 := by
  obtain ⟨cs, rfl, hsz⟩ := okWide_struct hs hval
  obtain ⟨u0, u1, u2, u3, u4, u5, u6, u7, rfl⟩ := array8 (hsz.trans hC)
  obtain ⟨fuel, hf⟩ := h
  obtain ⟨xs, n, _, _, _, hlen, hx⟩ := DataW.trod_struct hs hf
  have ho := Deep.hone_of hone
  have g0 := hx 0 f0 rfl
  have g1 := hx 1 f1 rfl
  have g2 := hx 2 f2 rfl
  have g3 := hx 3 f3 rfl
  have g4 := hx 4 f4 rfl
  have g5 := hx 5 f5 rfl
  have g6 := hx 6 f6 rfl
  have g7 := hx 7 f7 rfl
  rw [(ho 0 f0 rfl).1, (ho 0 f0 rfl).2] at g0
  rw [(ho 1 f1 rfl).1, (ho 1 f1 rfl).2] at g1
  rw [(ho 2 f2 rfl).1, (ho 2 f2 rfl).2] at g2
  rw [(ho 3 f3 rfl).1, (ho 3 f3 rfl).2] at g3
  rw [(ho 4 f4 rfl).1, (ho 4 f4 rfl).2] at g4
  rw [(ho 5 f5 rfl).1, (ho 5 f5 rfl).2] at g5
  rw [(ho 6 f6 rfl).1, (ho 6 f6 rfl).2] at g6
  rw [(ho 7 f7 rfl).1, (ho 7 f7 rfl).2] at g7
  simp only [Value.cells, List.drop_zero, List.drop_succ_cons, List.take_succ_cons, List.take_zero] at g0 g1 g2 g3 g4 g5 g6 g7
  rw [List.getElem?_eq_getElem (by rw [hlen]; simp)] at g0 g1 g2 g3 g4 g5 g6 g7
  obtain ⟨z0, q0, _, w0⟩ := DataW.trod_int h0 g0
  obtain ⟨z1, q1, _, w1⟩ := DataW.trod_int h1 g1
  obtain ⟨z2, q2, _, w2⟩ := DataW.trod_int h2 g2
  obtain ⟨z3, q3, _, w3⟩ := DataW.trod_int h3 g3
  obtain ⟨z4, q4, _, w4⟩ := DataW.trod_int h4 g4
  obtain ⟨z5, q5, _, w5⟩ := DataW.trod_int h5 g5
  obtain ⟨A, m, cap, l, rfl, hm, hcap, hl, hi, hr⟩ := open_nums_in h6 hte hce g6
  obtain ⟨sx, q7, _, w7⟩ := DataW.trod_string h7 g7
  simp only [List.cons.injEq, and_true] at q0 q1 q2 q3 q4 q5 q7
  subst q0 q1 q2 q3 q4 q5 q7
  obtain ⟨tx, rfl, htx, htl⟩ := text_of sx
  subst hl
  have hI : ∀ z : Int, (Lit.int .i64 z).wf = true → I64 z := fun z hz => by simpa [I64, Lit.wf, IntKind.min, IntKind.max, IntKind.signed, IntKind.bits] using hz
  exact ⟨⟨z0, z1, z2, z3, z4, z5, l, tx⟩, (A, cap), rfl, ⟨hr, hm, hcap⟩, ⟨hI _ w0, hI _ w1, hI _ w2, hI _ w3, hI _ w4, hI _ w5⟩, hi, htx, by show tx.length ≤ _; unfold maxLen at w7; omega⟩
/-- Fields, and a version, by value. -/
theorem open_rest {r : Reach} {b0 : Nat} {t te tb : TypeId} {f0 f1 e0 e1 e2 e3 : Field} {w : World} {v : Value} {d : DataW H} {ps : List MemPlace} (ht : P.underlying t = some (.struct #[f0, f1])) (hone : Deep.oneCellFields P #[f0, f1] = true) (hC : P.cellsOf t = 2)
    (h0 : P.underlying f0.type = some (.slice te)) (hs : P.underlying te = some (.struct #[e0, e1, e2, e3])) (hCe : P.cellsOf te = 4)
    (o : e0.offset = 0 ∧ e1.offset = 1 ∧ e2.offset = 2 ∧ e3.offset = 3) (c : P.cellsOf e0.type = 1 ∧ P.cellsOf e1.type = 1 ∧ P.cellsOf e2.type = 1 ∧ P.cellsOf e3.type = 1)
    (k0 : P.underlying e0.type = some (.int .i64)) (k1 : P.underlying e1.type = some (.int .i64)) (k2 : P.underlying e2.type = some (.int .u64)) (k3 : P.underlying e3.type = some (.slice tb)) (hte : P.underlying tb = some (.int .u8)) (hce : P.cellsOf tb = 1)
    (h1 : P.underlying f1.type = some (.int .u8)) (hval : Value.okWide P w r b0 t v) (h : DataW.Trod enc P w 0 (fun _ => true) true t v d ps) :
    ∃ (A : Option Addr) (n c : Nat) (l : List Fel) (S : List (Option Addr × Nat)) (k : Int), v = .agg #[.slice A n c, .int .u8 k] ∧ n ≤ c ∧ c ≤ 9223372036854775807 ∧ RdF w w.heap.size A n l S ∧
      (∀ f ∈ l, f.wf ∧ -9223372036854775808 ≤ f.num ∧ f.num ≤ 9223372036854775807 ∧ -9223372036854775808 ≤ f.wire ∧ f.wire ≤ 9223372036854775807) ∧ 0 ≤ k ∧ k ≤ 255 := by
  obtain ⟨v0, v1, y0, y1, m, rfl, _, _, g0, g1⟩ := Joins.open_agg2 ht hone hC hval h
  obtain ⟨A, n, cc, l, S, rfl, hn, hc, hr, hl⟩ := open_fields_in h0 hs hCe o c k0 k1 k2 k3 hte hce g0
  obtain ⟨k, q, _, hwf⟩ := DataW.trod_int h1 g1
  simp only [List.cons.injEq, and_true] at q
  subst q
  have hk : 0 ≤ k ∧ k ≤ 255 := by simpa [Lit.wf, IntKind.min, IntKind.max, IntKind.signed, IntKind.bits] using hwf
  exact ⟨A, n, cc, l, S, k, rfl, hn, hc, hr, hl, hk⟩
end
end Go.Proofs.Ytkagonijkalicaa
