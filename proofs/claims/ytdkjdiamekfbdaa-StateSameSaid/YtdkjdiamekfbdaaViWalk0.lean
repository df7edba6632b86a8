/-
  The walks of the functions of layer 1 that only reckon.
-/
import Derived.Test.YtdkjdiamekfbdaaChecked
import Derived.Test.YtdkjdiamekfbdaaViBits
import Derived.Test.YtdkjdiamekfbdaaViLen
import Derived.WalkKit
import Derived.Lib.Hide
import Derived.Lib.Walk
namespace Go.Proofs.Ytdkjdiamekfbdaa.Vi
open Go.RowKit

theorem ret_int {k : IntKind} {a b : Int} (h : a = b) : Ending.returned (.int k a) = .returned (.int k b) := by rw [h]

theorem size_any (n : Int) (w : World) (h0 : 0 ≤ n) (h1 : n ≤ 18446744073709551615) :
    Calls Try.prog 83 #[.int .u64 n] w fun e w' => e = .returned (.int .i64 ((put n.toNat).length : Nat)) ∧ w = w' := by
  have e : bits .or .u64 n 1 = ((n.toNat ||| 1 : Nat) : Int) := u64_or n 1 h0 (by omega) (by omega) (by omega)
  have hp := put_bits n.toNat (by omega)
  have ho := or_one n.toNat
  have hl : Lib.bitLen (n.toNat ||| 1) ≤ 64 := Lib.bitLen_le _ 64 (by omega) (by omega)
  have HP : Hid ((Lib.bitLen (n.toNat ||| 1) + 6) / 7 = (put n.toNat).length) := hp
  clear hp
  go_enter Try.func83, Try.ntmps83
  go_wp2_with (go_at_call 85; refine (len64_any _ _ (by omega) (by omega)).mono ?_; rintro e w' ⟨rfl, rfl⟩)
  go_ret
  refine ⟨ret_int ?_, rfl⟩
  have := HP.out
  omega
end Go.Proofs.Ytdkjdiamekfbdaa.Vi
