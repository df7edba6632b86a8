/-
  The walks of the landed layer 2: may, Put.
-/
import Derived.Test.YtmcbifdfpaooaaaTgRPut
import Derived.Test.YtmcbifdfpaooaaaViPut
namespace Go.Proofs.Ytmcbifdfpaooaaa.Tg
open Go.RowKit
open Go.Proofs.Ytmcbifdfpaooaaa.Vi (put take put_len put_byte take_put take_put0 take_back take_cut take_err put_inj taken put_any put_int)

set_option maxRecDepth 100000 in
theorem may_tag (num wire : Int) (w : World) (n0 : -9223372036854775808 ≤ num) (n1 : num ≤ 9223372036854775807) (k0 : -9223372036854775808 ≤ wire) (k1 : wire ≤ 9223372036854775807) :
    Calls Try.prog 36 #[.int .i64 num, .int .i64 wire] w fun e w' => e = .returned (.bool (okTag num wire)) ∧ w = w' := by
  cases ho : okTag num wire with
  | false =>
    by_cases h1 : num < 1
    · go_enter Try.func36, Try.ntmps36
      go_wp2_with fail
      go_ret
      exact ⟨rfl, rfl⟩
    · by_cases h2 : 1000 < num
      · go_enter Try.func36, Try.ntmps36
        go_wp2_with fail
        go_ret
        exact ⟨rfl, rfl⟩
      · have h3 : ¬ (wire = 0 ∨ wire = 2) := fun h => by rw [okTag_iff.2 ⟨by omega, by omega, h⟩] at ho; cases ho
        have q1 : (wire == 0) = false := by rw [beq_eq_false_iff_ne]; omega
        have q2 : (wire == 2) = false := by rw [beq_eq_false_iff_ne]; omega
        clear h3
        go_enter Try.func36, Try.ntmps36
        go_wp2_with fail
        go_ret
        exact ⟨rfl, rfl⟩
  | true =>
    obtain ⟨h1, h2, h3⟩ := okTag_iff.1 ho
    clear ho
    rcases h3 with rfl | rfl
    · go_enter Try.func36, Try.ntmps36
      go_wp2_with fail
      go_ret
      exact ⟨rfl, rfl⟩
    · go_enter Try.func36, Try.ntmps36
      go_wp2_with fail
      go_ret
      exact ⟨rfl, rfl⟩

set_option maxRecDepth 100000 in
theorem put_tag (num wire : Int) (w : World) (n0 : -9223372036854775808 ≤ num) (n1 : num ≤ 9223372036854775807) (k0 : -9223372036854775808 ≤ wire) (k1 : wire ≤ 9223372036854775807) :
    Calls Try.prog 34 #[.int .i64 num, .int .i64 wire] w (NewPair w (tput num wire).1 ((tput num wire).2 : Nat)) := by
  have hm := Lib.hid (may_tag num wire w n0 n1 k0 k1)
  cases ho : okTag num wire with
  | false =>
    rw [tput_no ho]
    go_enter Try.func34, Try.ntmps34
    go_wp2_with fail
    refine hm.out.mono ?_
    rintro e w' ⟨rfl, rfl⟩
    rw [ho]
    clear ho
    go_wp2
    go_ret2
    exact pair_no w
  | true =>
    rw [tput_ok ho]
    obtain ⟨h1, h2, h3⟩ := okTag_iff.1 ho
    have h4 : 0 ≤ wire ∧ wire ≤ 2 := by omega
    clear h3
    go_enter Try.func34, Try.ntmps34
    go_wp2_with fail
    refine hm.out.mono ?_
    rintro e w' ⟨rfl, rfl⟩
    rw [ho]
    clear ho
    go_wp2_with fail
    refine (put_int (num * 8 + wire) w (by omega) (by omega)).mono ?_
    rintro e w' ⟨v, rfl, hown, hb⟩
    go_wp2
    go_ret2
    exact ⟨v, rfl, by rw [show 8 * num + wire = num * 8 + wire by omega]; exact hown, hb⟩
end Go.Proofs.Ytmcbifdfpaooaaa.Tg
