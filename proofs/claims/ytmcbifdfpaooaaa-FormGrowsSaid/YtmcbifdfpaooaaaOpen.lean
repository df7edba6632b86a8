/-
  More openers for a law's row: an array of two truths; a struct of bytes and a number.
-/
import Derived.Test.YtmcbifdfpaooaaaLift
import Derived.Lib.SmallJoins
namespace Go.Proofs.Ytmcbifdfpaooaaa
open Go.ChangeShapes Go.WideShapes Go.ChangeAt Go.RowKit

section
variable {H : Type} {enc : TypeId × Value → H} {P : Program}

/-- Bytes that came in, within something. -/
theorem open_bytes_in {t e : TypeId} {w : World} {v : Value} {fuel : Nat} {x : DataW H × List MemPlace} (ht : P.underlying t = some (.slice e)) (he : P.underlying e = some (.int .u8)) (hc : P.cellsOf e = 1)
    (h : DataW.trod enc P w 0 (fun _ => true) true fuel t [v] = some x) :
    ∃ (A : Option Addr) (n c : Nat) (bs : List Nat), v = .slice A n c ∧ n ≤ c ∧ c ≤ 9223372036854775807 ∧ (∀ c ∈ bs, c < 256) ∧ Rd w w.heap.size 1 A n (bvs bs) := by
  rcases open_ints ht he hc h with ⟨hcs, _⟩ | ⟨ad, len, cap, zs, hcs, _, hle, hmax, hzl, _, hcell, hwf⟩
  · simp only [List.cons.injEq, and_true] at hcs
    subst hcs
    exact ⟨none, 0, 0, [], rfl, Nat.le_refl _, by omega, by simp, Rd.nil _ _ _ _⟩
  · simp only [List.cons.injEq, and_true] at hcs
    subst hcs
    simp only [if_true] at hzl
    have hz : ∀ z ∈ zs, 0 ≤ z ∧ z ≤ 255 := fun z hz => by
      have := hwf z hz
      simpa [Lit.wf, IntKind.min, IntKind.max, IntKind.signed, IntKind.bits] using this
    refine ⟨some ad, len, cap, (zs.take len).map Int.toNat, rfl, hle, by unfold maxLen at hmax; omega, ?_, ?_, ?_⟩
    · intro c hc
      obtain ⟨z, hm, rfl⟩ := List.mem_map.1 hc
      have := hz z (List.mem_of_mem_take hm)
      omega
    · simp [bvs]; omega
    · by_cases hn : len = 0
      · exact .inl hn
      · refine .inr ⟨ad, rfl, ?_, ?_⟩
        · have := World.block_lt_of_cell? _ _ (hcell 0 (by omega))
          rwa [add_block] at this
        · intro j u hu
          have hj : j < len := by
            have := (List.getElem?_eq_some_iff.1 hu).1
            simp [bvs] at this; omega
          rw [hcell j (by omega)]
          have hjz : j < zs.length := by omega
          have hb := hz zs[j] (List.getElem_mem hjz)
          simp [bvs, bv, hj, hjz] at hu
          rw [← hu]
          simp [List.getD, hjz]
          omega

/-- Two truths by value. -/
theorem open_two {r : Reach} {b0 : Nat} {t e : TypeId} {w : World} {v : Value} {d : DataW H} {ps : List MemPlace} (ht : P.underlying t = some (.array 2 e)) (he : P.underlying e = some .bool) (hc : P.cellsOf e = 1) (hC : P.cellsOf t = 2)
    (hval : Value.okWide P w r b0 t v) (h : DataW.Trod enc P w 0 (fun _ => true) true t v d ps) : ∃ x y : Bool, v = .agg #[.bool x, .bool y] := by
  simp only [Value.okWide, ht] at hval
  obtain ⟨cs, rfl, hsz, _⟩ := hval
  obtain ⟨c0, c1, rfl⟩ := Joins.array2 (hsz.trans hC)
  obtain ⟨fuel, hf⟩ := h
  obtain ⟨xs, m, _, _, _, hl, hel⟩ := DataW.trod_array ht hf
  match xs, hl with
  | [x0, x1], _ =>
    have k0 := hel 0 (by omega)
    have k1 := hel 1 (by omega)
    simp only [hc, Value.cells, Nat.mul_one] at k0 k1
    obtain ⟨p0, q0, _⟩ := DataW.trod_bool he k0
    obtain ⟨p1, q1, _⟩ := DataW.trod_bool he k1
    simp at q0 q1
    exact ⟨p0, p1, by rw [q0, q1]⟩

/-- Bytes and a number by value. -/
theorem open_bytes_int {r : Reach} {b0 : Nat} {t e : TypeId} {f0 f1 : Field} {w : World} {v : Value} {d : DataW H} {ps : List MemPlace} (ht : P.underlying t = some (.struct #[f0, f1])) (hone : Deep.oneCellFields P #[f0, f1] = true) (hC : P.cellsOf t = 2)
    (h0 : P.underlying f0.type = some (.slice e)) (he : P.underlying e = some (.int .u8)) (hc : P.cellsOf e = 1) (h1 : P.underlying f1.type = some (.int .i64))
    (hval : Value.okWide P w r b0 t v) (h : DataW.Trod enc P w 0 (fun _ => true) true t v d ps) :
    ∃ (A : Option Addr) (n c : Nat) (bs : List Nat) (k : Int), v = .agg #[.slice A n c, .int .i64 k] ∧ n ≤ c ∧ c ≤ 9223372036854775807 ∧ (∀ c ∈ bs, c < 256) ∧ Rd w w.heap.size 1 A n (bvs bs) ∧
      -9223372036854775808 ≤ k ∧ k ≤ 9223372036854775807 := by
  obtain ⟨v0, v1, y0, y1, m, rfl, _, _, k0, k1⟩ := Joins.open_agg2 ht hone hC hval h
  obtain ⟨A, n, c, bs, rfl, hn, hc, hb, hr⟩ := open_bytes_in h0 he hc k0
  obtain ⟨k, q, _, hwf⟩ := DataW.trod_int h1 k1
  simp only [List.cons.injEq, and_true] at q
  subst q
  have hk : -9223372036854775808 ≤ k ∧ k ≤ 9223372036854775807 := by simpa [Lit.wf, IntKind.min, IntKind.max, IntKind.signed, IntKind.bits] using hwf
  exact ⟨A, n, c, bs, k, rfl, hn, hc, hb, hr, hk.1, hk.2⟩
end
end Go.Proofs.Ytmcbifdfpaooaaa
