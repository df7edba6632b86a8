/-
  The walk of the reference's Put of layer 2.
-/
import Derived.Test.YtmcbifdfpaooaaaTgPlain
import Derived.Test.YtmcbifdfpaooaaaViRPut
namespace Go.Proofs.Ytmcbifdfpaooaaa.Tg
open Go.RowKit
open Go.Proofs.Ytmcbifdfpaooaaa.Vi (put take put_len put_byte take_put take_put0 take_back take_cut take_err put_inj rput_any rput_int)

theorem pair_no (w : World) : NewPair w [] 1 (.returned (.tuple #[.slice none 0 0, .int .i64 1])) w := ⟨_, rfl, World.ownsRow_nil _ _ _ _, Below.refl _ _⟩

set_option maxRecDepth 100000 in
theorem rput_tag (num wire : Int) (w : World) (n0 : -9223372036854775808 ≤ num) (n1 : num ≤ 9223372036854775807) (k0 : -9223372036854775808 ≤ wire) (k1 : wire ≤ 9223372036854775807) :
    Calls Try.prog 22 #[.int .i64 num, .int .i64 wire] w (NewPair w (tput num wire).1 ((tput num wire).2 : Nat)) := by
  cases ho : okTag num wire with
  | false =>
    rw [tput_no ho]
    by_cases h1 : num < 1
    · go_enter Try.func22, Try.ntmps22
      go_wp2_with fail
      go_ret2
      exact pair_no w
    · by_cases h2 : 1000 < num
      · go_enter Try.func22, Try.ntmps22
        go_wp2_with fail
        go_ret2
        exact pair_no w
      · have h3 : ¬ (wire = 0 ∨ wire = 2) := fun h => by rw [okTag_iff.2 ⟨by omega, by omega, h⟩] at ho; cases ho
        have q1 : (wire != 0) = true := by rw [bne_iff_ne]; omega
        have q2 : (wire != 2) = true := by rw [bne_iff_ne]; omega
        clear h3
        go_enter Try.func22, Try.ntmps22
        go_wp2_with fail
        go_ret2
        exact pair_no w
  | true =>
    rw [tput_ok ho]
    obtain ⟨h1, h2, h3⟩ := okTag_iff.1 ho
    clear ho
    rcases h3 with rfl | rfl
    · go_enter Try.func22, Try.ntmps22
      go_wp2_with fail
      refine (rput_int (8 * num) w (by omega) (by omega)).mono ?_
      rintro e w' ⟨v, rfl, hown, hb⟩
      go_wp2
      go_ret2
      exact ⟨v, rfl, by simpa using hown, hb⟩
    · go_enter Try.func22, Try.ntmps22
      go_wp2_with fail
      refine (rput_int (8 * num + 2) w (by omega) (by omega)).mono ?_
      rintro e w' ⟨v, rfl, hown, hb⟩
      go_wp2
      go_ret2
      exact ⟨v, rfl, hown, hb⟩
end Go.Proofs.Ytmcbifdfpaooaaa.Tg
