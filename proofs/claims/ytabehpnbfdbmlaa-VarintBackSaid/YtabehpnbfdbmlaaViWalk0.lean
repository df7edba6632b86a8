/-
  The walks of the functions of layer 1 that only reckon.
-/
import Derived.Test.YtabehpnbfdbmlaaChecked
import Derived.Test.YtabehpnbfdbmlaaViBits
import Derived.Test.YtabehpnbfdbmlaaViLen
import Derived.WalkKit
import Derived.Lib.Hide
import Derived.Lib.Walk
namespace Go.Proofs.Ytabehpnbfdbmlaa.Vi
open Go.RowKit

theorem ret_int {k : IntKind} {a b : Int} (h : a = b) : Ending.returned (.int k a) = .returned (.int k b) := by rw [h]

theorem zig_any (k : Int) (w : World) (h0 : -9223372036854775808 ≤ k) (h1 : k ≤ 9223372036854775807) :
    Calls Try.prog 15 #[.int .i64 k] w fun e w' => e = .returned (.int .u64 (zig k)) ∧ w = w' := by
  go_enter Try.func15, Try.ntmps15
  go_wp2
  go_ret
  exact ⟨ret_int (zig_bits k h0 h1), rfl⟩
theorem zag_any (n : Int) (w : World) (h0 : 0 ≤ n) (h1 : n ≤ 18446744073709551615) :
    Calls Try.prog 17 #[.int .u64 n] w fun e w' => e = .returned (.int .i64 (zag n)) ∧ w = w' := by
  go_enter Try.func17, Try.ntmps17
  go_wp2
  go_ret
  exact ⟨ret_int (zag_bits n h0 h1), rfl⟩
theorem rzig_any (k : Int) (w : World) (h0 : -9223372036854775808 ≤ k) (h1 : k ≤ 9223372036854775807) :
    Calls Try.prog 16 #[.int .i64 k] w fun e w' => e = .returned (.int .u64 (zig k)) ∧ w = w' := by
  go_enter Try.func16, Try.ntmps16
  go_wp2
  all_goals go_ret
  · exact ⟨ret_int (by unfold zig; rw [if_pos (by assumption)]; omega), rfl⟩
  · exact ⟨ret_int (by unfold zig; rw [if_neg (by omega)]), rfl⟩
theorem rzag_any (n : Int) (w : World) (h0 : 0 ≤ n) (h1 : n ≤ 18446744073709551615) :
    Calls Try.prog 18 #[.int .u64 n] w fun e w' => e = .returned (.int .i64 (zag n)) ∧ w = w' := by
  go_enter Try.func18, Try.ntmps18
  go_wp2
  all_goals go_ret
  · have h : (n % 2 == 1) = true := by assumption
    exact ⟨ret_int (by unfold zag; rw [if_pos (by simpa using h)]), rfl⟩
  · have h : (n % 2 == 1) = false := by assumption
    exact ⟨ret_int (by unfold zag; rw [if_neg (by simpa using h)]), rfl⟩
theorem size_any (n : Int) (w : World) (h0 : 0 ≤ n) (h1 : n ≤ 18446744073709551615) :
    Calls Try.prog 13 #[.int .u64 n] w fun e w' => e = .returned (.int .i64 ((put n.toNat).length : Nat)) ∧ w = w' := by
  have e : bits .or .u64 n 1 = ((n.toNat ||| 1 : Nat) : Int) := u64_or n 1 h0 (by omega) (by omega) (by omega)
  have hp := put_bits n.toNat (by omega)
  have ho := or_one n.toNat
  have hl : Lib.bitLen (n.toNat ||| 1) ≤ 64 := Lib.bitLen_le _ 64 (by omega) (by omega)
  have HP : Hid ((Lib.bitLen (n.toNat ||| 1) + 6) / 7 = (put n.toNat).length) := hp
  clear hp
  go_enter Try.func13, Try.ntmps13
  go_wp2_with (go_at_call 19; refine (len64_any _ _ (by omega) (by omega)).mono ?_; rintro e w' ⟨rfl, rfl⟩)
  go_ret
  refine ⟨ret_int ?_, rfl⟩
  have := HP.out
  omega
end Go.Proofs.Ytabehpnbfdbmlaa.Vi
