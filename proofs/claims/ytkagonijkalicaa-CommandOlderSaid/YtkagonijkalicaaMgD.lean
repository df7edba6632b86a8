/-
  Several texts in one: ViBits, ViRPut, TgRPut.
-/
import Derived.Test.YtkagonijkalicaaMgA
import Derived.WalkKit
import Derived.Lib.BitFns
import Derived.Test.YtkagonijkalicaaWords
set_option linter.unusedVariables false
set_option linter.unusedSimpArgs false

/-
  Plain facts on bits: how many a number has, all turned, and the numbers that are small near nought.
-/
namespace Go.Proofs.Ytkagonijkalicaa.Vi
open Go.RowKit

def zig (k : Int) : Int := if k < 0 then -2 * k - 1 else 2 * k
def zag (n : Int) : Int := if n % 2 = 1 then -(n / 2) - 1 else n / 2
theorem zig_rng {k : Int} (h0 : -9223372036854775808 ≤ k) (h1 : k ≤ 9223372036854775807) : 0 ≤ zig k ∧ zig k ≤ 18446744073709551615 := by
  unfold zig; split <;> omega
theorem zag_rng {n : Int} (h0 : 0 ≤ n) (h1 : n ≤ 18446744073709551615) : -9223372036854775808 ≤ zag n ∧ zag n ≤ 9223372036854775807 := by
  unfold zag; split <;> omega
theorem zag_zig (k : Int) : zag (zig k) = k := by unfold zag zig; split <;> split <;> omega
theorem zig_zag {n : Int} (h0 : 0 ≤ n) : zig (zag n) = n := by unfold zag zig; split <;> split <;> omega

theorem nat_not (x : Nat) (h : x < 18446744073709551616) : x ^^^ 18446744073709551615 = 18446744073709551615 - x := by
  have h1 := BitVec.toNat_not (x := BitVec.ofNat 64 x)
  rw [← BitVec.xor_allOnes, BitVec.toNat_xor, BitVec.toNat_ofNat, Nat.mod_eq_of_lt h] at h1
  exact h1
theorem xor_zero_u64 (x : Int) (h0 : 0 ≤ x) (h1 : x ≤ 18446744073709551615) : bits .xor .u64 x 0 = x := by
  rw [u64_xor x 0 h0 (by omega) (by omega) (by omega)]; simp; omega
theorem xor_ones_u64 (x : Int) (h0 : 0 ≤ x) (h1 : x ≤ 18446744073709551615) : bits .xor .u64 x 18446744073709551615 = 18446744073709551615 - x := by
  rw [u64_xor x _ h0 (by omega) (by omega) (by omega)]
  have := nat_not x.toNat (by omega)
  rw [show (18446744073709551615 : Int).toNat = 18446744073709551615 from rfl, this]; omega
theorem xor_i64 (x y : Int) : bits .xor .i64 x y = IntKind.i64.wrap ((BitVec.ofInt 64 x ^^^ BitVec.ofInt 64 y).toNat : Int) := rfl
theorem xor_zero_i64 (x : Int) (h0 : 0 ≤ x) (h1 : x ≤ 9223372036854775807) : bits .xor .i64 x 0 = x := by
  obtain ⟨m, rfl⟩ := Int.eq_ofNat_of_zero_le h0
  rw [xor_i64, BitVec.toNat_xor, ofInt_u64 m (by omega), show (BitVec.ofInt 64 0).toNat = 0 from rfl, Nat.xor_zero]
  exact IntWalk.i64_in _ ⟨by omega, by omega⟩
theorem xor_ones_i64 (x : Int) (h0 : 0 ≤ x) (h1 : x ≤ 9223372036854775807) : bits .xor .i64 x (-1) = -x - 1 := by
  obtain ⟨m, rfl⟩ := Int.eq_ofNat_of_zero_le h0
  rw [xor_i64, BitVec.toNat_xor, ofInt_u64 m (by omega), show (BitVec.ofInt 64 (-1)).toNat = 18446744073709551615 from rfl, nat_not m (by omega), IntKind.wrap_i64]
  omega

theorem zig_bits (k : Int) (h0 : -9223372036854775808 ≤ k) (h1 : k ≤ 9223372036854775807) :
    bits .xor .u64 (IntKind.u64.wrap (IntKind.u64.wrap k * 2)) (IntKind.u64.wrap (k / 9223372036854775808)) = zig k := by
  simp only [IntKind.wrap_u64]
  unfold zig
  split
  · rw [show k / 9223372036854775808 % 18446744073709551616 = 18446744073709551615 by omega, xor_ones_u64 _ (by omega) (by omega)]; omega
  · rw [show k / 9223372036854775808 % 18446744073709551616 = 0 by omega, xor_zero_u64 _ (by omega) (by omega)]; omega
theorem and_one (n : Int) (h0 : 0 ≤ n) (h1 : n ≤ 18446744073709551615) : bits .and .u64 n 1 = n % 2 := by
  rw [u64_and n 1 h0 (by omega) (by omega) (by omega), show (1 : Int).toNat = 1 from rfl, nat_mask1]; omega
theorem zag_bits (n : Int) (h0 : 0 ≤ n) (h1 : n ≤ 18446744073709551615) :
    bits .xor .i64 (n / 2) (wrap64 (-wrap64 (bits .and .u64 n 1))) = zag n := by
  rw [and_one n h0 h1]
  unfold zag
  split
  · rename_i h
    rw [h, show wrap64 (-wrap64 1) = -1 by unfold wrap64; omega, xor_ones_i64 _ (by omega) (by omega)]
  · rw [show n % 2 = 0 by omega, show wrap64 (-wrap64 0) = 0 by unfold wrap64; omega, xor_zero_i64 _ (by omega) (by omega)]

theorem or_one (n : Nat) : (n ||| 1) / 2 = n / 2 ∧ (n ||| 1) % 2 = 1 := by
  refine ⟨by rw [Nat.or_div_two]; simp, by simp [Nat.or_mod_two_eq_one]⟩
theorem putF_or (f n : Nat) : (putF f (n ||| 1)).length = (putF f n).length := by
  have := or_one n
  cases f with
  | zero => rfl
  | succ f =>
    unfold putF
    rw [show (n ||| 1) / 128 = n / 128 by omega]
    by_cases h : n < 128
    · rw [if_pos h, if_pos (by omega)]; rfl
    · rw [if_neg h, if_neg (by omega)]; simp
theorem bitLen_pos (m : Nat) (h0 : 1 ≤ m) (h : m < 18446744073709551616) : 1 ≤ Lib.bitLen m := by
  have := Lib.bitLen_half m (by omega) h; omega
theorem putF_bits (f m : Nat) (h0 : 1 ≤ m) (h : m < 2 ^ (7 * f + 1)) (h64 : m < 18446744073709551616) : (putF f m).length = (Lib.bitLen m + 6) / 7 := by
  induction f generalizing m with
  | zero =>
    have : m = 1 := by simp at h; omega
    subst this; rfl
  | succ f ih =>
    rw [pow71] at h
    unfold putF
    by_cases h1 : m < 128
    · rw [if_pos h1]
      have := Lib.bitLen_le m 7 (by omega) h1
      have := bitLen_pos m h0 h64
      simp only [List.length_cons, List.length_nil]; omega
    · rw [if_neg h1, List.length_cons, ih (m / 128) (by omega) (by omega) (by omega)]
      have := Lib.bitLen_shift 7 m (by omega) h64
      rw [show (2 : Nat) ^ 7 = 128 from rfl] at this
      omega
theorem put_bits (n : Nat) (h : n < 18446744073709551616) : (Lib.bitLen (n ||| 1) + 6) / 7 = (put n).length := by
  have := or_one n
  have h2 : n ||| 1 < 18446744073709551616 := by omega
  rw [← putF_bits 9 (n ||| 1) (by omega) h2 h2]
  exact putF_or 9 n

def intOf : Value → Int | .int _ q => q | _ => 0

theorem or128 (x : Int) (h0 : 0 ≤ x) (h1 : x ≤ 255) : bits .or .u8 x 128 = x % 128 + 128 := by
  obtain ⟨m, rfl⟩ := Int.eq_ofNat_of_zero_le h0
  have h := (by decide +kernel : ∀ c : Fin 256, c.val ||| 128 = c.val % 128 + 128) ⟨m, by omega⟩
  rw [u8_or _ _ h0 (by omega) (by omega) (by omega), Int.toNat_natCast]
  have h' : m ||| 128 = m % 128 + 128 := h
  rw [show (128 : Int).toNat = 128 from rfl, h']; omega

/-- The three results of what is taken. -/
def taken (r : Nat × Nat × Nat) : Value := .tuple #[.int .u64 (r.1 : Int), .int .i64 (r.2.1 : Int), .int .i64 (r.2.2 : Int)]

theorem taken_of {bs : List Nat} {x k e : Nat} {X K E : Int} (hv : take bs = (x, k, e)) (hx : X = x) (hk : K = k) (he : E = e) :
    Ending.returned (.tuple #[.int .u64 X, .int .i64 K, .int .i64 E]) = .returned (taken (take bs)) := by
  rw [hv, hx, hk, he]; rfl
theorem or_digit (m j c : Nat) (hj : j ≤ 9) (hm : m < 2 ^ (7 * j)) (h9 : j = 9 → c ≤ 1) :
    bits .or .u64 (m : Int) (IntKind.u64.wrap ((c : Int) % 128 * 2 ^ (7 * j))) = ((m + c % 128 * 2 ^ (7 * j) : Nat) : Int) := by
  have hb : c % 128 * 2 ^ (7 * j) < 18446744073709551616 := by
    by_cases h : j = 9
    · have := h9 h
      subst h
      have : c % 128 ≤ 1 := by omega
      have h1 := Nat.mul_le_mul_right (2 ^ (7 * 9)) this
      omega
    · have h1 : 2 ^ (7 * j) ≤ 2 ^ 56 := Nat.pow_le_pow_right (by omega) (by omega)
      have h2 : c % 128 * 2 ^ (7 * j) ≤ 127 * 2 ^ 56 := Nat.mul_le_mul (by omega) h1
      omega
  have hm2 : m < 18446744073709551616 := by
    have h1 : 2 ^ (7 * j) ≤ 2 ^ 63 := Nat.pow_le_pow_right (by omega) (by omega)
    omega
  have e : IntKind.u64.wrap ((c : Int) % 128 * 2 ^ (7 * j)) = ((c % 128 * 2 ^ (7 * j) : Nat) : Int) := by
    have e1 : (c : Int) % 128 * 2 ^ (7 * j) = ((c % 128 * 2 ^ (7 * j) : Nat) : Int) := by simp
    rw [e1, IntKind.wrap_u64]; omega
  rw [e, u64_or_nat _ _ hm2 hb, Nat.or_comm, nat_join (7 * j) _ _ (Nat.mul_mod_left _ _) hm, Nat.add_comm]

theorem tk_less {j m c : Nat} (_hj : j ≤ 9) (hm : m < 2 ^ (7 * j)) : m + c % 128 * 2 ^ (7 * j) < 2 ^ (7 * (j + 1)) := by
  rw [pow7]
  have h1 : c % 128 * 2 ^ (7 * j) ≤ 127 * 2 ^ (7 * j) := Nat.mul_le_mul_right _ (by omega)
  omega

end Go.Proofs.Ytkagonijkalicaa.Vi

/-
  The walks of the reference's way to lay a number down, and of its size.
-/
namespace Go.Proofs.Ytkagonijkalicaa.Vi
open Go.RowKit

theorem rem128 (x : Int) (h0 : 0 ≤ x) : x.tmod 128 = x % 128 := Int.tmod_eq_emod_of_nonneg h0

set_option maxHeartbeats 1000000 in
set_option maxRecDepth 100000 in
theorem rput_any (n : Nat) (w : World) (hn : n < 18446744073709551616) : Calls Try.prog 37 #[.int .u64 (n : Int)] w (NewBytes w (put n)) := by
  obtain ⟨i0, hi, hz0, hz1, hz2⟩ := info_parts byte_info
  go_enter Try.func37, Try.ntmps37
  go_wp2
  go_loopw [0, 3] (fun nn b wr => ∃ (f m : Nat) (acc : List Nat) (v : Value), nn = .int .u64 (m : Int) ∧ b = v ∧
      wr.ownsRow w.heap.size 5 1 v acc.length (bvs acc) ∧ Below w.heap.size w wr ∧ acc ++ putF f m = put n ∧ m < 2 ^ (7 * f + 1) ∧ acc.length + f = 9)
    (fun nn _ _ => (intOf nn).toNat)
  case atStart => exact ⟨9, n, [], _, rfl, rfl, World.ownsRow_made (e := 5) w #[] 0 (Nat.le_refl _) (by unfold maxLen; omega) rfl, (Below.refl _ _).alloc (Nat.le_refl _) _, rfl, hn, rfl⟩
  case round =>
    obtain ⟨f, m, acc, v, rfl, rfl, hown, hb, hput, hm, hf⟩ := hrel
    have HO := Lib.hid hown
    have HP := Lib.hid hput
    have HF := Lib.hid hf
    have HM := Lib.hid hm
    have hm64 : m < 18446744073709551616 := by
      have h1 : 2 ^ (7 * f + 1) ≤ 2 ^ 64 := Nat.pow_le_pow_right (by omega) (by omega)
      omega
    have hacc : acc.length ≤ 9 := by omega
    clear hown hput hf hm
    have hsz := hb.size
    by_cases hlt : 128 ≤ m
    · go_wp2_with (at_builtin; refine wpList_append_own _ rfl _ _ 25 rfl w.heap.size 5 i0 (.int .u8 0) 1 1 Try.underlying25 hi hz0 hz1 hz2 rfl (by decide) _ acc.length (bvs acc) rfl (HO.out.alloc _) ⟨wr.heap.size, 0, none⟩ 1 1 [.int .u8 ((m : Int) % 128 + 128)] rfl rfl (cell_new _ _ _) (by intro u hu; simp at hu; subst hu; rfl) (by unfold maxLen; omega) (by omega) (by simp; omega) ?_)
      intro v2 w2 hown2 hg2 _
      have hb2 : Below w.heap.size w w2 := (hb.alloc hsz _).grown hg2 (by simp; omega) (fun k hk => ((HO.out.lt k hk).1))
      clear hg2
      go_wp2
      go_roundw
      case rel =>
        obtain ⟨g, rfl⟩ : ∃ g, f = g + 1 := by
          cases f with
          | zero => have := HM.out; simp at this; omega
          | succ g => exact ⟨g, rfl⟩
        refine ⟨g, m / 128, acc ++ [m % 128 + 128], v2, by go_num, rfl, ?_, hb2, ?_, ?_, by have := HF.out; simp; omega⟩
        · rw [bvs_app, List.length_append]; exact hown2
        · have h1 := HP.out
          rw [putF, if_neg (by omega)] at h1
          rw [List.append_assoc]; exact h1
        · have h1 := HM.out
          rw [pow71] at h1
          omega
      case measure => simp [intOf]; omega
    · go_wp2_with (at_builtin; refine wpList_append_own _ rfl _ _ 25 rfl w.heap.size 5 i0 (.int .u8 0) 1 1 Try.underlying25 hi hz0 hz1 hz2 rfl (by decide) _ acc.length (bvs acc) rfl (HO.out.alloc _) ⟨wr.heap.size, 0, none⟩ 1 1 [.int .u8 ((m : Int))] rfl rfl (cell_new _ _ _) (by intro u hu; simp at hu; subst hu; rfl) (by unfold maxLen; omega) (by omega) (by simp; omega) ?_)
      intro v2 w2 hown2 hg2 _
      have hb2 : Below w.heap.size w w2 := (hb.alloc hsz _).grown hg2 (by simp; omega) (fun k hk => ((HO.out.lt k hk).1))
      clear hg2
      go_wp2
      go_ret
      refine ⟨_, rfl, ?_, hb2⟩
      have h3 : putF f m = [m] := by
        cases f with
        | zero => rfl
        | succ f => unfold putF; rw [if_pos (by omega)]
      rw [← HP.out, h3, bvs_app, List.length_append]
      exact hown2

theorem rput_int (x : Int) (w : World) (h0 : 0 ≤ x) (h1 : x ≤ 18446744073709551615) : Calls Try.prog 37 #[.int .u64 x] w (NewBytes w (put x.toNat)) := by
  obtain ⟨n, rfl⟩ := Int.eq_ofNat_of_zero_le h0
  rw [Int.toNat_natCast]
  exact rput_any n w (by omega)


end Go.Proofs.Ytkagonijkalicaa.Vi

/-
  The walk of the reference's Put of layer 2.
-/
namespace Go.Proofs.Ytkagonijkalicaa.Tg
open Go.RowKit
open Go.Proofs.Ytkagonijkalicaa.Vi (put take put_len put_byte take_put take_put0 take_back take_cut take_err put_inj rput_any rput_int)

theorem pair_no (w : World) : NewPair w [] 1 (.returned (.tuple #[.slice none 0 0, .int .i64 1])) w := ⟨_, rfl, World.ownsRow_nil _ _ _ _, Below.refl _ _⟩

set_option maxRecDepth 100000 in
theorem rput_tag (num wire : Int) (w : World) (n0 : -9223372036854775808 ≤ num) (n1 : num ≤ 9223372036854775807) (k0 : -9223372036854775808 ≤ wire) (k1 : wire ≤ 9223372036854775807) :
    Calls Try.prog 85 #[.int .i64 num, .int .i64 wire] w (NewPair w (tput num wire).1 ((tput num wire).2 : Nat)) := by
  cases ho : okTag num wire with
  | false =>
    rw [tput_no ho]
    by_cases h1 : num < 1
    · go_enter Try.func85, Try.ntmps85
      go_wp2_with fail
      go_ret2
      exact pair_no w
    · by_cases h2 : 1000 < num
      · go_enter Try.func85, Try.ntmps85
        go_wp2_with fail
        go_ret2
        exact pair_no w
      · have h3 : ¬ (wire = 0 ∨ wire = 2) := fun h => by rw [okTag_iff.2 ⟨by omega, by omega, h⟩] at ho; cases ho
        have q1 : (wire != 0) = true := by rw [bne_iff_ne]; omega
        have q2 : (wire != 2) = true := by rw [bne_iff_ne]; omega
        clear h3
        go_enter Try.func85, Try.ntmps85
        go_wp2_with fail
        go_ret2
        exact pair_no w
  | true =>
    rw [tput_ok ho]
    obtain ⟨h1, h2, h3⟩ := okTag_iff.1 ho
    clear ho
    rcases h3 with rfl | rfl
    · go_enter Try.func85, Try.ntmps85
      go_wp2_with fail
      refine (rput_int (8 * num) w (by omega) (by omega)).mono ?_
      rintro e w' ⟨v, rfl, hown, hb⟩
      go_wp2
      go_ret2
      exact ⟨v, rfl, by simpa using hown, hb⟩
    · go_enter Try.func85, Try.ntmps85
      go_wp2_with fail
      refine (rput_int (8 * num + 2) w (by omega) (by omega)).mono ?_
      rintro e w' ⟨v, rfl, hown, hb⟩
      go_wp2
      go_ret2
      exact ⟨v, rfl, hown, hb⟩
end Go.Proofs.Ytkagonijkalicaa.Tg
