/-
  The walk of the reference's Ints: two rows of numbers are the same.
-/
import Derived.Test.YtdkjdiamekfbdaaNums
import Derived.Deep.DeepCutAuto
import Derived.BigQuiet
namespace Go.Proofs.Ytdkjdiamekfbdaa
open Go.RowKit

set_option maxHeartbeats 1000000 in
set_option maxRecDepth 100000 in
theorem ints_any (A A' : Option Addr) (n n' c c' : Nat) (l l' : List Int) (w : World) (h : Rd w w.heap.size 1 A n (ivs l)) (h' : Rd w w.heap.size 1 A' n' (ivs l')) (hnc : n ≤ c) (hmax : c ≤ 9223372036854775807) (hnc' : n' ≤ c') (_hmax' : c' ≤ 9223372036854775807) :
    Calls Try.prog 77 #[.slice A n c, .slice A' n' c'] w fun e w' => e = .returned (.bool (decide (l = l'))) ∧ Below w.heap.size w w' := by
  have hlen : l.length = n := by have := h.1; rw [ivs_len] at this; omega
  have hlen' : l'.length = n' := by have := h'.1; rw [ivs_len] at this; omega
  obtain ⟨D, hD⟩ : ∃ D, decide (l = l') = D := ⟨_, rfl⟩
  rw [hD]
  have HR := Lib.hid h
  have HR' := Lib.hid h'
  have HL := Lib.hid hlen
  have HL' := Lib.hid hlen'
  have HD := Lib.hid hD
  clear h h' hlen hlen' hD
  by_cases hnn : n = n'
  · subst hnn
    go_enter Try.func77, Try.ntmps77
    go_wp2
    go_loopw [5] (fun i wr => ∃ j : Nat, j ≤ n ∧ i = .int .i64 (j : Int) ∧ l.take j = l'.take j ∧ Below w.heap.size w wr) (fun i _ => n - (intOf i).toNat)
    case atStart => exact ⟨0, Nat.zero_le _, rfl, rfl, Below.refl _ _⟩
    case round =>
      obtain ⟨j, hj, rfl, hm, hb⟩ := hrel
      have HM := Lib.hid hm
      clear hm
      by_cases hlt : j < n
      · obtain ⟨ad, x, rfl, hab, hx, g0⟩ := (HR.out.below hb).int hlt
        obtain ⟨ad', x', rfl, hab', hx', g0'⟩ := (HR'.out.below hb).int hlt
        have HX := Lib.hid hx
        have HX' := Lib.hid hx'
        clear hx hx'
        by_cases hxx : x = x'
        · subst hxx
          go_wp2_with (go_quiet (fail))
          go_roundw
          case rel =>
            refine ⟨j + 1, by omega, by go_num, ?_, by first | exact bel_drew' hb _ | exact hb⟩
            rw [List.take_add_one, List.take_add_one, HM.out, HX.out, HX'.out]
          case measure => simp [intOf]; omega
        · have q : (x != x') = true := by rw [bne_iff_ne]; exact hxx
          obtain rfl : D = false := by
            rw [← HD.out, decide_eq_false_iff_not]
            intro e
            subst e
            rw [HX.out] at HX'
            exact hxx (Option.some.inj HX'.out)
          go_wp2_with (go_quiet (fail))
          go_ret
          exact ⟨rfl, by first | exact bel_drew' hb _ | exact hb⟩
      · obtain rfl : j = n := by omega
        obtain rfl : D = true := by
          have := HM.out
          rw [List.take_of_length_le (by have := HL.out; omega), List.take_of_length_le (by have := HL'.out; omega)] at this
          rw [← HD.out, this]; simp
        go_wp2
        go_ret
        exact ⟨rfl, hb⟩
  · have q : ((n : Int) != (n' : Int)) = true := by rw [bne_iff_ne]; omega
    obtain rfl : D = false := by
      rw [← HD.out, decide_eq_false_iff_not]
      rintro rfl
      exact hnn (HL.out.symm.trans HL'.out)
    go_enter Try.func77, Try.ntmps77
    go_wp2
    go_ret
    exact ⟨rfl, Below.refl _ _⟩
end Go.Proofs.Ytdkjdiamekfbdaa
