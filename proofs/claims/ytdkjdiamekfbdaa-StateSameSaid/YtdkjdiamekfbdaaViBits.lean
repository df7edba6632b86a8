/-
  Plain facts on bits: how many a number has, all turned, and the numbers that are small near nought.
-/
import Derived.Test.YtdkjdiamekfbdaaViPlain
import Derived.WalkKit
import Derived.Lib.BitFns
namespace Go.Proofs.Ytdkjdiamekfbdaa.Vi
open Go.RowKit

def zig (k : Int) : Int := if k < 0 then -2 * k - 1 else 2 * k
def zag (n : Int) : Int := if n % 2 = 1 then -(n / 2) - 1 else n / 2
theorem zig_rng {k : Int} (h0 : -9223372036854775808 ≤ k) (h1 : k ≤ 9223372036854775807) : 0 ≤ zig k ∧ zig k ≤ 18446744073709551615 := by
  unfold zig; split <;> omega
theorem zag_rng {n : Int} (h0 : 0 ≤ n) (h1 : n ≤ 18446744073709551615) : -9223372036854775808 ≤ zag n ∧ zag n ≤ 9223372036854775807 := by
  unfold zag; split <;> omega
theorem zag_zig (k : Int) : zag (zig k) = k := by unfold zag zig; split <;> split <;> omega
theorem zig_zag {n : Int} (h0 : 0 ≤ n) : zig (zag n) = n := by unfold zag zig; split <;> split <;> omega

theorem nat_not (x : Nat) (h : x < 18446744073709551616) : x ^^^ 18446744073709551615 = 18446744073709551615 - x := by
  have h1 := BitVec.toNat_not (x := BitVec.ofNat 64 x)
  rw [← BitVec.xor_allOnes, BitVec.toNat_xor, BitVec.toNat_ofNat, Nat.mod_eq_of_lt h] at h1
  exact h1
theorem xor_zero_u64 (x : Int) (h0 : 0 ≤ x) (h1 : x ≤ 18446744073709551615) : bits .xor .u64 x 0 = x := by
  rw [u64_xor x 0 h0 (by omega) (by omega) (by omega)]; simp; omega
theorem xor_ones_u64 (x : Int) (h0 : 0 ≤ x) (h1 : x ≤ 18446744073709551615) : bits .xor .u64 x 18446744073709551615 = 18446744073709551615 - x := by
  rw [u64_xor x _ h0 (by omega) (by omega) (by omega)]
  have := nat_not x.toNat (by omega)
  rw [show (18446744073709551615 : Int).toNat = 18446744073709551615 from rfl, this]; omega
theorem xor_i64 (x y : Int) : bits .xor .i64 x y = IntKind.i64.wrap ((BitVec.ofInt 64 x ^^^ BitVec.ofInt 64 y).toNat : Int) := rfl
theorem xor_zero_i64 (x : Int) (h0 : 0 ≤ x) (h1 : x ≤ 9223372036854775807) : bits .xor .i64 x 0 = x := by
  obtain ⟨m, rfl⟩ := Int.eq_ofNat_of_zero_le h0
  rw [xor_i64, BitVec.toNat_xor, ofInt_u64 m (by omega), show (BitVec.ofInt 64 0).toNat = 0 from rfl, Nat.xor_zero]
  exact IntWalk.i64_in _ ⟨by omega, by omega⟩
theorem xor_ones_i64 (x : Int) (h0 : 0 ≤ x) (h1 : x ≤ 9223372036854775807) : bits .xor .i64 x (-1) = -x - 1 := by
  obtain ⟨m, rfl⟩ := Int.eq_ofNat_of_zero_le h0
  rw [xor_i64, BitVec.toNat_xor, ofInt_u64 m (by omega), show (BitVec.ofInt 64 (-1)).toNat = 18446744073709551615 from rfl, nat_not m (by omega), IntKind.wrap_i64]
  omega

theorem zig_bits (k : Int) (h0 : -9223372036854775808 ≤ k) (h1 : k ≤ 9223372036854775807) :
    bits .xor .u64 (IntKind.u64.wrap (IntKind.u64.wrap k * 2)) (IntKind.u64.wrap (k / 9223372036854775808)) = zig k := by
  simp only [IntKind.wrap_u64]
  unfold zig
  split
  · rw [show k / 9223372036854775808 % 18446744073709551616 = 18446744073709551615 by omega, xor_ones_u64 _ (by omega) (by omega)]; omega
  · rw [show k / 9223372036854775808 % 18446744073709551616 = 0 by omega, xor_zero_u64 _ (by omega) (by omega)]; omega
theorem and_one (n : Int) (h0 : 0 ≤ n) (h1 : n ≤ 18446744073709551615) : bits .and .u64 n 1 = n % 2 := by
  rw [u64_and n 1 h0 (by omega) (by omega) (by omega), show (1 : Int).toNat = 1 from rfl, nat_mask1]; omega
theorem zag_bits (n : Int) (h0 : 0 ≤ n) (h1 : n ≤ 18446744073709551615) :
    bits .xor .i64 (n / 2) (wrap64 (-wrap64 (bits .and .u64 n 1))) = zag n := by
  rw [and_one n h0 h1]
  unfold zag
  split
  · rename_i h
    rw [h, show wrap64 (-wrap64 1) = -1 by unfold wrap64; omega, xor_ones_i64 _ (by omega) (by omega)]
  · rw [show n % 2 = 0 by omega, show wrap64 (-wrap64 0) = 0 by unfold wrap64; omega, xor_zero_i64 _ (by omega) (by omega)]

theorem or_one (n : Nat) : (n ||| 1) / 2 = n / 2 ∧ (n ||| 1) % 2 = 1 := by
  refine ⟨by rw [Nat.or_div_two]; simp, by simp [Nat.or_mod_two_eq_one]⟩
theorem putF_or (f n : Nat) : (putF f (n ||| 1)).length = (putF f n).length := by
  have := or_one n
  cases f with
  | zero => rfl
  | succ f =>
    unfold putF
    rw [show (n ||| 1) / 128 = n / 128 by omega]
    by_cases h : n < 128
    · rw [if_pos h, if_pos (by omega)]; rfl
    · rw [if_neg h, if_neg (by omega)]; simp
theorem bitLen_pos (m : Nat) (h0 : 1 ≤ m) (h : m < 18446744073709551616) : 1 ≤ Lib.bitLen m := by
  have := Lib.bitLen_half m (by omega) h; omega
theorem putF_bits (f m : Nat) (h0 : 1 ≤ m) (h : m < 2 ^ (7 * f + 1)) (h64 : m < 18446744073709551616) : (putF f m).length = (Lib.bitLen m + 6) / 7 := by
  induction f generalizing m with
  | zero =>
    have : m = 1 := by simp at h; omega
    subst this; rfl
  | succ f ih =>
    rw [pow71] at h
    unfold putF
    by_cases h1 : m < 128
    · rw [if_pos h1]
      have := Lib.bitLen_le m 7 (by omega) h1
      have := bitLen_pos m h0 h64
      simp only [List.length_cons, List.length_nil]; omega
    · rw [if_neg h1, List.length_cons, ih (m / 128) (by omega) (by omega) (by omega)]
      have := Lib.bitLen_shift 7 m (by omega) h64
      rw [show (2 : Nat) ^ 7 = 128 from rfl] at this
      omega
theorem put_bits (n : Nat) (h : n < 18446744073709551616) : (Lib.bitLen (n ||| 1) + 6) / 7 = (put n).length := by
  have := or_one n
  have h2 : n ||| 1 < 18446744073709551616 := by omega
  rw [← putF_bits 9 (n ||| 1) (by omega) h2 h2]
  exact putF_or 9 n

def intOf : Value → Int | .int _ q => q | _ => 0

theorem or128 (x : Int) (h0 : 0 ≤ x) (h1 : x ≤ 255) : bits .or .u8 x 128 = x % 128 + 128 := by
  obtain ⟨m, rfl⟩ := Int.eq_ofNat_of_zero_le h0
  have h := (by decide +kernel : ∀ c : Fin 256, c.val ||| 128 = c.val % 128 + 128) ⟨m, by omega⟩
  rw [u8_or _ _ h0 (by omega) (by omega) (by omega), Int.toNat_natCast]
  have h' : m ||| 128 = m % 128 + 128 := h
  rw [show (128 : Int).toNat = 128 from rfl, h']; omega

/-- The three results of what is taken. -/
def taken (r : Nat × Nat × Nat) : Value := .tuple #[.int .u64 (r.1 : Int), .int .i64 (r.2.1 : Int), .int .i64 (r.2.2 : Int)]

theorem taken_of {bs : List Nat} {x k e : Nat} {X K E : Int} (hv : take bs = (x, k, e)) (hx : X = x) (hk : K = k) (he : E = e) :
    Ending.returned (.tuple #[.int .u64 X, .int .i64 K, .int .i64 E]) = .returned (taken (take bs)) := by
  rw [hv, hx, hk, he]; rfl
theorem or_digit (m j c : Nat) (hj : j ≤ 9) (hm : m < 2 ^ (7 * j)) (h9 : j = 9 → c ≤ 1) :
    bits .or .u64 (m : Int) (IntKind.u64.wrap ((c : Int) % 128 * 2 ^ (7 * j))) = ((m + c % 128 * 2 ^ (7 * j) : Nat) : Int) := by
  have hb : c % 128 * 2 ^ (7 * j) < 18446744073709551616 := by
    by_cases h : j = 9
    · have := h9 h
      subst h
      have : c % 128 ≤ 1 := by omega
      have h1 := Nat.mul_le_mul_right (2 ^ (7 * 9)) this
      omega
    · have h1 : 2 ^ (7 * j) ≤ 2 ^ 56 := Nat.pow_le_pow_right (by omega) (by omega)
      have h2 : c % 128 * 2 ^ (7 * j) ≤ 127 * 2 ^ 56 := Nat.mul_le_mul (by omega) h1
      omega
  have hm2 : m < 18446744073709551616 := by
    have h1 : 2 ^ (7 * j) ≤ 2 ^ 63 := Nat.pow_le_pow_right (by omega) (by omega)
    omega
  have e : IntKind.u64.wrap ((c : Int) % 128 * 2 ^ (7 * j)) = ((c % 128 * 2 ^ (7 * j) : Nat) : Int) := by
    have e1 : (c : Int) % 128 * 2 ^ (7 * j) = ((c % 128 * 2 ^ (7 * j) : Nat) : Int) := by simp
    rw [e1, IntKind.wrap_u64]; omega
  rw [e, u64_or_nat _ _ hm2 hb, Nat.or_comm, nat_join (7 * j) _ _ (Nat.mul_mod_left _ _) hm, Nat.add_comm]

theorem tk_less {j m c : Nat} (_hj : j ≤ 9) (hm : m < 2 ^ (7 * j)) : m + c % 128 * 2 ^ (7 * j) < 2 ^ (7 * (j + 1)) := by
  rw [pow7]
  have h1 : c % 128 * 2 ^ (7 * j) ≤ 127 * 2 ^ (7 * j) := Nat.mul_le_mul_right _ (by omega)
  omega

end Go.Proofs.Ytdkjdiamekfbdaa.Vi
