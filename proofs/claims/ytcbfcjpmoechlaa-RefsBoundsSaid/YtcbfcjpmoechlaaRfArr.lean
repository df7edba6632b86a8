/-
  A count of each chunk as an array's cells.
-/
import Derived.Test.YtcbfcjpmoechlaaRfMem
import Derived.Deep.WholeRow
set_option linter.unusedVariables false
set_option linter.unusedSimpArgs false
namespace Go.Proofs.Ytcbfcjpmoechlaa
open Go.RowKit
open Rf (Snp cnt many counts countsN distinctN has without freed freedN one withC)

/-- The cells of an array that holds, at each chunk, f of it. -/
def tal (f : Int → Nat) : Array Value := ((List.range 65).map fun i : Nat => Value.int .i64 (if i = 0 then 0 else (f (i : Int) : Int))).toArray
theorem tal_size (f : Int → Nat) : (tal f).size = 65 := by simp [tal]
theorem tal_one (f : Int → Nat) : (tal f).all (·.oneCell') = true := by
  simp [tal, Value.oneCell']
theorem tal_get (f : Int → Nat) {c : Nat} (h1 : 1 ≤ c) (h2 : c < 65) : (tal f)[c]? = some (.int .i64 (f (c : Int) : Int)) := by
  have h0 : ¬ c = 0 := by omega
  simp [tal, h2, h0]
theorem tal_ext {f g : Int → Nat} (h : ∀ c : Nat, 1 ≤ c → c < 65 → f c = g c) : tal f = tal g := by
  unfold tal
  congr 1
  refine List.map_congr_left fun i hi => ?_
  by_cases h0 : i = 0
  · simp [h0]
  · rw [if_neg h0, if_neg h0, h i (by omega) (by simpa using hi)]
theorem tal_set (f : Int → Nat) {c : Nat} (h1 : 1 ≤ c) : (tal f).setIfInBounds c (.int .i64 ((f (c : Int) : Int) + 1)) = tal fun y => if y = (c : Int) then f c + 1 else f y := by
  apply Array.ext_getElem?
  intro i
  rw [Array.getElem?_setIfInBounds, tal_size]
  by_cases hi : i < 65
  · by_cases hc : c = i
    · subst hc
      rw [if_pos rfl, if_pos hi, tal_get _ h1 hi]
      simp
    · rw [if_neg hc]
      by_cases h0 : i = 0
      · subst h0
        simp [tal]
      · rw [tal_get _ (by omega) hi, tal_get _ (by omega) hi, if_neg (by omega)]
  · have hs : ∀ g, (tal g)[i]? = none := fun g => Array.getElem?_eq_none (by rw [tal_size]; omega)
    rw [hs, hs]
    by_cases hc : c = i
    · rw [if_pos hc, if_neg (by omega)]
    · rw [if_neg hc]
theorem tal_counts (l : List Snp) : (tal (cnt l)).toList = ivs (counts l) := by
  apply List.ext_getElem?
  intro i
  unfold tal counts ivs
  cases i with
  | zero => simp [iv]
  | succ i =>
    by_cases hi : i < 64
    · simp [hi, iv, show i + 1 < 65 by omega]
    · have h2 : ¬ i + 1 < 65 := by omega
      simp [hi, h2]
theorem tally_info : (Try.prog.info? 42).map (fun i => (i.zero, i.size)) = some (some (.agg (tal fun _ => 0)), 65) := by kernel_rfl
theorem tally_size : (Try.prog.info? 42).map (·.size) = some 65 := (zero_of_info tally_info).2
theorem tally_zero (w : World) : (zeroValue 42).run Try.prog w = .ok (.agg (tal fun _ => 0)) w := (zero_of_info tally_info).1 w
end Go.Proofs.Ytcbfcjpmoechlaa
