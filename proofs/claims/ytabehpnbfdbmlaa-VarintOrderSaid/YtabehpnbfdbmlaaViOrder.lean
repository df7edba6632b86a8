/-
  The walk of the law that a greater number has at least as many bytes, that each holds seven bits, and that near nought there are few.
-/
import Derived.Test.YtabehpnbfdbmlaaViShown
import Derived.Deep.DeepCutAuto
namespace Go.Proofs.Ytabehpnbfdbmlaa.Vi
open Go.RowKit

theorem putF_mono (f n m : Nat) (h : n ≤ m) : (putF f n).length ≤ (putF f m).length := by
  induction f generalizing n m with
  | zero => simp [putF]
  | succ f ih =>
    unfold putF
    by_cases hm : m < 128
    · rw [if_pos hm, if_pos (by omega)]; simp
    · rw [if_neg hm]
      by_cases hn : n < 128
      · rw [if_pos hn]; simp
      · rw [if_neg hn]
        have := ih (n / 128) (m / 128) (by omega)
        simp only [List.length_cons]; omega
/-- How many groups are left. -/
def left (f m : Nat) : Nat := if m = 0 then 0 else (putF f m).length
theorem left_step (f m : Nat) (hm : m ≠ 0) (h : m < 2 ^ (7 * f + 1)) : ∃ g, m / 128 < 2 ^ (7 * g + 1) ∧ left f m = 1 + left g (m / 128) := by
  cases f with
  | zero =>
    have : m = 1 := by simp at h; omega
    subst this
    exact ⟨0, by decide, by decide⟩
  | succ f =>
    rw [pow71] at h
    refine ⟨f, by omega, ?_⟩
    unfold left
    rw [if_neg hm, putF]
    by_cases h1 : m < 128
    · rw [if_pos h1, if_pos (by omega)]; rfl
    · rw [if_neg h1, if_neg (by omega), List.length_cons]; omega
theorem put_left (n : Nat) (h : n < 18446744073709551616) : (put n).length = 1 + left 8 (n / 128) := by
  unfold put left
  rw [putF]
  by_cases h1 : n < 128
  · rw [if_pos h1, if_pos (by omega)]; rfl
  · rw [if_neg h1, if_neg (by omega), List.length_cons]; omega
theorem put_one (n : Nat) : (put n).length = 1 ↔ n < 128 := by
  unfold put
  rw [putF]
  by_cases h1 : n < 128
  · rw [if_pos h1]; simp [h1]
  · rw [if_neg h1, List.length_cons]
    have := putF_len 8 (n / 128)
    constructor
    · intro h; omega
    · intro h; exact absurd h h1

set_option maxHeartbeats 4000000 in
set_option maxRecDepth 100000 in
theorem order_any (a b k : Int) (w : World) (a0 : 0 ≤ a) (a1 : a ≤ 18446744073709551615) (b0 : 0 ≤ b) (b1 : b ≤ 18446744073709551615) (k0 : -9223372036854775808 ≤ k) (k1 : k ≤ 9223372036854775807) :
    Calls Try.prog 6 #[.int .u64 a, .int .u64 b, .int .i64 k] w fun e w' => e = .returned (.bool true) ∧ Below w.heap.size w w' := by
  go_enter Try.func6, Try.ntmps6
  go_upto_region 4 with (go_at_call 8; refine (shown_any _).mono ?_; rintro e w1 ⟨rfl, hb1⟩)
  have m1 : 0 ≤ min a b := by omega
  have m2 : min a b ≤ max a b := by omega
  have m3 : max a b ≤ 18446744073709551615 := by omega
  generalize min a b = lo at *
  generalize max a b = hi at *
  obtain ⟨Lo, rfl⟩ := Int.eq_ofNat_of_zero_le m1
  obtain ⟨H, rfl⟩ := Int.eq_ofNat_of_zero_le (show 0 ≤ hi by omega)
  have hH : H < 18446744073709551616 := by omega
  have hmono := putF_mono 9 Lo H (by omega)
  have hl := put_len H
  have hll := put_len Lo
  have hleft := put_left H hH
  obtain ⟨SL, hSL⟩ : ∃ SL, SL = (put Lo).length := ⟨_, rfl⟩
  obtain ⟨SH, hSH⟩ : ∃ SH, SH = (put H).length := ⟨_, rfl⟩
  have hmono : SL ≤ SH := by rw [hSL, hSH]; exact hmono
  rw [← hSH] at hleft hl
  rw [← hSL] at hll
  have HSL := Lib.hid hSL
  have HSH := Lib.hid hSH
  have HLEFT := Lib.hid hleft
  clear hSL hSH hleft
  go_wp2
  go_loop [10, 11] (fun nn x => ∃ f m t : Nat, x = .int .u64 (m : Int) ∧ nn = .int .i64 (t : Int) ∧ m < 2 ^ (7 * f + 1) ∧ SH = t + left f m ∧ m < 18446744073709551616) (fun _ x => (intOf x).toNat)
  case atStart => exact ⟨8, H / 128, 1, by go_num, rfl, by omega, HLEFT.out, by omega⟩
  case round =>
    obtain ⟨f, m, t, rfl, rfl, hm, ht, hm64⟩ := hrel
    have HM := Lib.hid hm
    have HT := Lib.hid ht
    have ht10 : t ≤ 10 := by omega
    clear hm ht
    by_cases hm0 : 0 < m
    · go_wp2
      go_round
      case rel =>
        obtain ⟨g, hg1, hg2⟩ := left_step f m (by omega) HM.out
        exact ⟨g, m / 128, t + 1, by go_num, by go_num, hg1, by rw [HT.out, hg2]; omega, by omega⟩
      case measure => simp [intOf]; omega
    · obtain rfl : m = 0 := by omega
      obtain rfl : t = SH := by have := HT.out; simp [left] at this; omega
      have hz := zig_rng k0 k1
      have hz1 : (put (zig k).toNat).length = 1 ↔ (-64 ≤ k ∧ k < 64) := by
        rw [put_one]; unfold zig; split <;> omega
      obtain ⟨SZ, hSZ⟩ : ∃ SZ, SZ = (put (zig k).toNat).length := ⟨_, rfl⟩
      rw [← hSZ] at hz1
      have hzl := put_len (zig k).toNat
      rw [← hSZ] at hzl
      have HSZ := Lib.hid hSZ
      have HZ1 := Lib.hid hz1
      clear hSZ hz1
      have q0 : (t : Int) == (t : Int) := by simp
      by_cases hs : -64 ≤ k ∧ k < 64
      · have hz2 : SZ = 1 := HZ1.out.2 hs
        subst hz2
        obtain ⟨hs1, hs2⟩ := hs
        go_wp2_with (first
          | (go_at_call 13; refine (size_any _ _ (by omega) (by omega)).mono ?_; rintro e' w5 ⟨rfl, rfl⟩; rw [Int.toNat_natCast]; first | rw [← HSL.out] | rw [← HSH.out])
          | (go_at_call 13; refine (size_any _ _ (by omega) (by omega)).mono ?_; rintro e' w5 ⟨rfl, rfl⟩; rw [← HSZ.out])
          | (go_at_call 15; refine (zig_any _ _ (by omega) (by omega)).mono ?_; rintro e' w5 ⟨rfl, rfl⟩))
        all_goals go_ret
        all_goals exact ⟨by simp, hb1⟩
      · have hz2 : SZ ≠ 1 := fun h => hs (HZ1.out.1 h)
        have q1 : ((SZ : Int) == 1) = false := beq_eq_false_iff_ne.2 (by omega)
        clear hz2
        by_cases hs1 : k < -64
        · clear hs
          go_wp2_with (first
            | (go_at_call 13; refine (size_any _ _ (by omega) (by omega)).mono ?_; rintro e' w5 ⟨rfl, rfl⟩; rw [Int.toNat_natCast]; first | rw [← HSL.out] | rw [← HSH.out])
            | (go_at_call 13; refine (size_any _ _ (by omega) (by omega)).mono ?_; rintro e' w5 ⟨rfl, rfl⟩; rw [← HSZ.out])
            | (go_at_call 15; refine (zig_any _ _ (by omega) (by omega)).mono ?_; rintro e' w5 ⟨rfl, rfl⟩))
          all_goals go_ret
          all_goals exact ⟨by simp [q1], hb1⟩
        · have hs2 : 64 ≤ k := by omega
          clear hs
          go_wp2_with (first
            | (go_at_call 13; refine (size_any _ _ (by omega) (by omega)).mono ?_; rintro e' w5 ⟨rfl, rfl⟩; rw [Int.toNat_natCast]; first | rw [← HSL.out] | rw [← HSH.out])
            | (go_at_call 13; refine (size_any _ _ (by omega) (by omega)).mono ?_; rintro e' w5 ⟨rfl, rfl⟩; rw [← HSZ.out])
            | (go_at_call 15; refine (zig_any _ _ (by omega) (by omega)).mono ?_; rintro e' w5 ⟨rfl, rfl⟩))
          all_goals go_ret
          all_goals exact ⟨by simp [q1, hs2], hb1⟩
end Go.Proofs.Ytabehpnbfdbmlaa.Vi
