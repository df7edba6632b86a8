/-
  A row of snapshots that came in as an argument.
-/
import Derived.Test.YtdkjdiamekfbdaaNumsOpen
import Derived.Test.YtdkjdiamekfbdaaRfMem
namespace Go.Proofs.Ytdkjdiamekfbdaa
open Go.ChangeShapes Go.WideShapes Go.ChangeAt Go.RowKit
open Rf (Snp)

section
variable {H : Type} {enc : TypeId × Value → H} {P : Program}
theorem open_snaps_in {t e te : TypeId} {f0 f1 f2 f3 f4 : Field} {w : World} {v : Value} {fuel : Nat} {xx : DataW H × List MemPlace} (ht : P.underlying t = some (.slice e)) (hs : P.underlying e = some (.struct #[f0, f1, f2, f3, f4])) (hC : P.cellsOf e = 5)
    (o : f0.offset = 0 ∧ f1.offset = 1 ∧ f2.offset = 2 ∧ f3.offset = 3 ∧ f4.offset = 4) (c : P.cellsOf f0.type = 1 ∧ P.cellsOf f1.type = 1 ∧ P.cellsOf f2.type = 1 ∧ P.cellsOf f3.type = 1 ∧ P.cellsOf f4.type = 1)
    (h0 : P.underlying f0.type = some (.int .i64)) (h1 : P.underlying f1.type = some (.int .i64)) (h2 : P.underlying f2.type = some (.slice te)) (hte : P.underlying te = some (.int .i64)) (hce : P.cellsOf te = 1) (h3 : P.underlying f3.type = some .bool) (h4 : P.underlying f4.type = some .string)
    (hf : DataW.trod enc P w 0 (fun _ => true) true fuel t [v] = some xx) :
    ∃ (A : Option Addr) (n c : Nat) (l : List Snp) (S : List (Option Addr × Nat)), v = .slice A n c ∧ n ≤ c ∧ c ≤ 9223372036854775807 ∧ RdS w w.heap.size A n l S ∧ ∀ a ∈ l, Snok a := by
  rcases DataW.trod_slice ht hf with ⟨hcs, _⟩ | ⟨ad, n, cc, elems, rest, m, _, hcs, _, _, hle, hmax, hel, hget, _⟩
  · simp at hcs
    subst hcs
    exact ⟨none, 0, 0, [], [], rfl, Nat.le_refl _, by omega, RdP.nil _ _ _, by simp⟩
  · simp at hcs
    subst hcs
    have key : ∀ i, i < n → ∃ (f : Snp) (s : Option Addr × Nat), (∀ j, j < 5 → w.cell? (ad.add (i * 5 + j)) = (sncells f s)[j]?) ∧ (Rd w w.heap.size 1 s.1 (sninn f).length (sninn f) ∧ (sninn f).length ≤ s.2 ∧ s.2 ≤ 9223372036854775807) ∧ Snok f := by
      intro i hi
      have hg := hget i hi
      have hi' : i < elems.length := by omega
      rw [hC, List.getElem?_eq_getElem hi', Option.bind_eq_some_iff] at hg
      obtain ⟨cs, hcs, htr⟩ := hg
      obtain ⟨_, hl5, hcell⟩ := World.cells?_some hcs
      obtain ⟨xs, m', _, _, _, hxl, hx⟩ := DataW.trod_struct hs htr
      match cs, hl5 with
      | [u0, u1, u2, u3, u4], _ =>
        match xs, hxl with
        | [y0, y1, y2, y3, y4], _ =>
          have g0 := hx 0 f0 rfl
          have g1 := hx 1 f1 rfl
          have g2 := hx 2 f2 rfl
          have g3 := hx 3 f3 rfl
          have g4 := hx 4 f4 rfl
          rw [o.1, c.1] at g0
          rw [o.2.1, c.2.1] at g1
          rw [o.2.2.1, c.2.2.1] at g2
          rw [o.2.2.2.1, c.2.2.2.1] at g3
          rw [o.2.2.2.2, c.2.2.2.2] at g4
          simp at g0 g1 g2 g3 g4
          obtain ⟨z0, q0, _, w0⟩ := DataW.trod_int h0 g0
          obtain ⟨z1, q1, _, w1⟩ := DataW.trod_int h1 g1
          obtain ⟨A', n', c', ch, rfl, hn', hc', hl', hi', hr'⟩ := open_nums_in h2 hte hce g2
          obtain ⟨b3, q3, _⟩ := DataW.trod_bool h3 g3
          obtain ⟨sx, q4, _, w4⟩ := DataW.trod_string h4 g4
          simp at q0 q1 q3 q4
          subst q0 q1 q3 q4
          obtain ⟨tx, rfl, htx, htl⟩ := text_of sx
          have b0 : I64 z0 := by simpa [I64, Lit.wf, IntKind.min, IntKind.max, IntKind.signed, IntKind.bits] using w0
          have b1 : I64 z1 := by simpa [I64, Lit.wf, IntKind.min, IntKind.max, IntKind.signed, IntKind.bits] using w1
          subst hl'
          refine ⟨⟨z0, z1, ch, b3, tx⟩, (A', c'), fun j hj => ?_, ⟨?_, ?_, hc'⟩, b0, b1, hi', htx⟩
          · have hc2 := hcell j hj
            rw [add_twice] at hc2
            rw [hc2]
            match j, hj with
            | 0, _ => rfl
            | 1, _ => rfl
            | 2, _ => rfl
            | 3, _ => rfl
            | 4, _ => rfl
          · show Rd w w.heap.size 1 A' (ivs ch).length (ivs ch)
            rw [ivs_len]
            exact hr'
          · show (ivs ch).length ≤ c'
            rw [ivs_len]
            exact hn'
    obtain ⟨l, S, hl, hS, hq⟩ := lists_of n key
    refine ⟨some ad, n, cc, l, S, rfl, hle, by unfold maxLen at hmax; omega, ⟨hl, hS, ⟨by rw [pcells_len sn_len l S (by omega), hl], ?_⟩, fun k f s hf hs => (hq k f s hf hs).2.1⟩, fun f hf => ?_⟩
    · by_cases hn : n = 0
      · exact .inl hn
      · refine .inr ⟨ad, rfl, ?_, ?_⟩
        · obtain ⟨f, hf⟩ : ∃ f, l[0]? = some f := ⟨l[0]'(by omega), by simp⟩
          obtain ⟨s, hs⟩ : ∃ s, S[0]? = some s := ⟨S[0]'(by omega), by simp⟩
          have := (hq 0 f s hf hs).1 0 (by omega)
          have h2 := World.block_lt_of_cell? _ _ (this.trans (by simp [sncells]; rfl))
          rwa [add_block] at h2
        · intro j u hu
          have hj : j < n * 5 := by
            have := (List.getElem?_eq_some_iff.1 hu).1
            rw [pcells_len sn_len l S (by omega), hl] at this
            exact this
          obtain ⟨f, hf⟩ : ∃ f, l[j / 5]? = some f := ⟨l[j / 5]'(by omega), by simp⟩
          obtain ⟨s, hs⟩ : ∃ s, S[j / 5]? = some s := ⟨S[j / 5]'(by omega), by simp⟩
          have h1 := pcells_get sn_len l S (j / 5) (j % 5) f s hf hs (by omega)
          have h2 := (hq _ f s hf hs).1 (j % 5) (by omega)
          have ej : j / 5 * 5 + j % 5 = j := by omega
          rw [ej] at h1 h2
          rw [h2, ← h1, hu]
    · obtain ⟨k, hk, rfl⟩ := List.getElem_of_mem hf
      obtain ⟨s, hs⟩ : ∃ s, S[k]? = some s := ⟨S[k]'(by omega), by simp⟩
      exact (hq k _ s (by simp) hs).2.2
theorem open_snaps {t e te : TypeId} {f0 f1 f2 f3 f4 : Field} {r : Reach} {b0 : Nat} {w : World} {v : Value} {d : DataW H} {ps : List MemPlace} (ht : P.underlying t = some (.slice e)) (hs : P.underlying e = some (.struct #[f0, f1, f2, f3, f4])) (hC : P.cellsOf e = 5)
    (o : f0.offset = 0 ∧ f1.offset = 1 ∧ f2.offset = 2 ∧ f3.offset = 3 ∧ f4.offset = 4) (c : P.cellsOf f0.type = 1 ∧ P.cellsOf f1.type = 1 ∧ P.cellsOf f2.type = 1 ∧ P.cellsOf f3.type = 1 ∧ P.cellsOf f4.type = 1)
    (h0 : P.underlying f0.type = some (.int .i64)) (h1 : P.underlying f1.type = some (.int .i64)) (h2 : P.underlying f2.type = some (.slice te)) (hte : P.underlying te = some (.int .i64)) (hce : P.cellsOf te = 1) (h3 : P.underlying f3.type = some .bool) (h4 : P.underlying f4.type = some .string)
    (hval : Value.okWide P w r b0 t v) (h : DataW.Trod enc P w 0 (fun _ => true) true t v d ps) :
    ∃ (A : Option Addr) (n c : Nat) (l : List Snp) (S : List (Option Addr × Nat)), v = .slice A n c ∧ n ≤ c ∧ c ≤ 9223372036854775807 ∧ RdS w w.heap.size A n l S ∧ ∀ a ∈ l, Snok a := by
  obtain ⟨a, n, c', rfl⟩ := okWide_slice ht hval
  obtain ⟨fuel, hf⟩ := h
  exact open_snaps_in ht hs hC o c h0 h1 h2 hte hce h3 h4 (by simpa [Value.cells] using hf)
end
end Go.Proofs.Ytdkjdiamekfbdaa
