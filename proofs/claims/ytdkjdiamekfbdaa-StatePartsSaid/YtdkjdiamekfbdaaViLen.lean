/-
  The walk of the library's count of bits.
-/
import Derived.Test.YtdkjdiamekfbdaaChecked
import Derived.Lib.Strings
import Derived.Lib.Slices
import Derived.Lib.Small
import Derived.Lib.Walk
import Derived.Lib.BitFns
namespace Go.Proofs.Ytdkjdiamekfbdaa.Vi

/-- Of the table's entry to the whole number's bits. -/
theorem len_top (x : Int) (k : Nat) (m : Int) (h0 : 0 ≤ x) (hx : x ≤ 18446744073709551615) (hm : m = x / 2 ^ k) (hk : m ≤ 255) (hlo : k = 0 ∨ 1 ≤ m)  : Lib.len8 m + k = (Lib.bitLen x.toNat : Int) := by
  obtain ⟨n, rfl⟩ := Int.eq_ofNat_of_zero_le h0
  have hp := Nat.two_pow_pos k
  have e : m = ((n / 2 ^ k : Nat) : Int) := by rw [hm]; simp
  have hb : n / 2 ^ k < 256 := by omega
  have hm0 : 0 ≤ m := by rw [e]; exact Int.natCast_nonneg _
  rw [Lib.len8_of m hm0 hk, e, Int.toNat_natCast, Int.toNat_natCast]
  rcases hlo with rfl | hlo
  · simp
  · have h1 : 1 ≤ n / 2 ^ k := by omega
    have h2 : 2 ^ k ≤ n := by
      have := (Nat.le_div_iff_mul_le hp).1 h1; omega
    rw [Lib.bitLen_shift k n h2 (by omega)]; omega

set_option maxHeartbeats 4000000 in
set_option maxRecDepth 100000 in
theorem len64_any (x : Int) (w : World) (h0 : 0 ≤ x) (h1 : x ≤ 18446744073709551615) :
    Calls Try.prog 85 #[.int .u64 x] w fun e w' => e = .returned (.int .i64 (Lib.bitLen x.toNat)) ∧ w = w' := by
  go_enter Try.func85, Try.ntmps85
  go_wp2
  all_goals go_ret
  all_goals refine ⟨congrArg Ending.returned (congrArg (Value.int IntKind.i64) ?_), rfl⟩
  all_goals have hb : Lib.bitLen x.toNat ≤ 64 := Lib.bitLen_le _ 64 (by omega) (by omega)
  all_goals have hn : (0 : Int) ≤ (Lib.bitLen x.toNat : Int) := Int.natCast_nonneg _
  · have t := len_top x 56 (x / 4294967296 / 65536 / 256 % 256) h0 h1 (by show _ = x / 72057594037927936; omega) (by omega) (by omega)
    omega
  · have t := len_top x 48 (x / 4294967296 / 65536 % 256) h0 h1 (by show _ = x / 281474976710656; omega) (by omega) (by omega)
    omega
  · have t := len_top x 40 (x / 4294967296 / 256 % 256) h0 h1 (by show _ = x / 1099511627776; omega) (by omega) (by omega)
    omega
  · have t := len_top x 32 (x / 4294967296 % 256) h0 h1 (by show _ = x / 4294967296; omega) (by omega) (by omega)
    omega
  · have t := len_top x 24 (x / 65536 / 256 % 256) h0 h1 (by show _ = x / 16777216; omega) (by omega) (by omega)
    omega
  · have t := len_top x 16 (x / 65536 % 256) h0 h1 (by show _ = x / 65536; omega) (by omega) (by omega)
    omega
  · have t := len_top x 8 (x / 256 % 256) h0 h1 (by show _ = x / 256; omega) (by omega) (by omega)
    omega
  · have t := len_top x 0 (x % 256) h0 h1 (by show _ = x / 1; omega) (by omega) (by omega)
    omega
end Go.Proofs.Ytdkjdiamekfbdaa.Vi
