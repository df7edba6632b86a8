/-
  Rows of numbers, and strings, that came in as arguments.
-/
import Derived.Test.YtdkjdiamekfbdaaLift
import Derived.Test.YtdkjdiamekfbdaaNums
import Derived.Lib.SmallJoins
namespace Go.Proofs.Ytdkjdiamekfbdaa
open Go.ChangeShapes Go.WideShapes Go.ChangeAt Go.RowKit

theorem text_of (s : ByteArray) : ∃ t : List Nat, s = strOf t ∧ (∀ b ∈ t, b < 256) ∧ t.length = s.size := by
  have e : (s.data.toList.map UInt8.toNat).map UInt8.ofNat = s.data.toList := by
    rw [List.map_map]
    conv => rhs; rw [← List.map_id s.data.toList]
    exact List.map_congr_left fun c _ => UInt8.ofNat_toNat
  refine ⟨s.data.toList.map UInt8.toNat, ?_, fun b hb => ?_, ?_⟩
  · unfold strOf
    rw [e]
  · obtain ⟨c, _, rfl⟩ := List.mem_map.1 hb
    exact UInt8.toNat_lt c
  · rw [List.length_map]; rfl
section
variable {H : Type} {enc : TypeId × Value → H} {P : Program}
/-- A row of numbers that came in. -/
theorem open_nums_in {t e : TypeId} {w : World} {v : Value} {fuel : Nat} {x : DataW H × List MemPlace} (ht : P.underlying t = some (.slice e)) (he : P.underlying e = some (.int .i64)) (hc : P.cellsOf e = 1)
    (h : DataW.trod enc P w 0 (fun _ => true) true fuel t [v] = some x) :
    ∃ (A : Option Addr) (n c : Nat) (l : List Int), v = .slice A n c ∧ n ≤ c ∧ c ≤ 9223372036854775807 ∧ l.length = n ∧ (∀ x ∈ l, I64 x) ∧ Rd w w.heap.size 1 A n (ivs l) := by
  rcases open_ints ht he hc h with ⟨hcs, _⟩ | ⟨ad, n, c, zs, hcs, _, hle, hmax, hzl, _, hcell, hwf⟩
  · simp at hcs
    subst hcs
    exact ⟨none, 0, 0, [], rfl, Nat.le_refl _, by omega, rfl, by simp, Rd.nil _ _ _ _⟩
  · simp at hcs
    subst hcs
    simp only [if_true] at hzl
    have hl : (zs.take n).length = n := by rw [List.length_take]; omega
    refine ⟨some ad, n, c, zs.take n, rfl, hle, by unfold maxLen at hmax; omega, hl, ?_, ?_⟩
    · intro z hz
      have := hwf z (List.mem_of_mem_take hz)
      simpa [I64, Lit.wf, IntKind.min, IntKind.max, IntKind.signed, IntKind.bits] using this
    · refine ⟨by rw [ivs_len, hl, Nat.mul_one], ?_⟩
      by_cases hn : n = 0
      · exact .inl hn
      · refine .inr ⟨ad, rfl, ?_, ?_⟩
        · have := World.block_lt_of_cell? _ _ (hcell 0 (by omega))
          rwa [add_block] at this
        · intro j u hu
          have hj : j < n := by
            have := (List.getElem?_eq_some_iff.1 hu).1
            rw [ivs_len, hl] at this
            exact this
          rw [hcell j (by omega)]
          have hjz : j < zs.length := by omega
          simp [ivs, iv, hj, hjz] at hu
          rw [← hu]
          simp [List.getD, hjz]
theorem open_nums {t e : TypeId} {r : Reach} {b0 : Nat} {w : World} {v : Value} {d : DataW H} {ps : List MemPlace} (ht : P.underlying t = some (.slice e)) (he : P.underlying e = some (.int .i64)) (hc : P.cellsOf e = 1)
    (hval : Value.okWide P w r b0 t v) (h : DataW.Trod enc P w 0 (fun _ => true) true t v d ps) :
    ∃ (A : Option Addr) (n c : Nat) (l : List Int), v = .slice A n c ∧ n ≤ c ∧ c ≤ 9223372036854775807 ∧ l.length = n ∧ (∀ x ∈ l, I64 x) ∧ Rd w w.heap.size 1 A n (ivs l) := by
  obtain ⟨a, n, c, rfl⟩ := okWide_slice ht hval
  obtain ⟨fuel, hf⟩ := h
  exact open_nums_in ht he hc (by simpa [Value.cells] using hf)

end
end Go.Proofs.Ytdkjdiamekfbdaa
