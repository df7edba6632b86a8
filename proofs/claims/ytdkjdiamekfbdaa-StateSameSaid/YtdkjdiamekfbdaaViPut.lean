/-
  The walks of the two ways to lay a number down.
-/
import Derived.Test.YtdkjdiamekfbdaaWords
import Derived.Test.YtdkjdiamekfbdaaViWalk0
namespace Go.Proofs.Ytdkjdiamekfbdaa.Vi
open Go.RowKit

set_option maxHeartbeats 1000000 in
set_option maxRecDepth 100000 in
theorem put_any (n : Nat) (w : World) (hn : n < 18446744073709551616) : Calls Try.prog 81 #[.int .u64 (n : Int)] w (NewBytes w (put n)) := by
  obtain ⟨i0, hi, hz0, hz1, hz2⟩ := info_parts byte_info
  have hl := put_len n
  obtain ⟨L, hL⟩ : ∃ L, L = (put n).length := ⟨_, rfl⟩
  rw [← hL] at hl
  have HL := Lib.hid hL
  clear hL
  go_enter Try.func81, Try.ntmps81
  go_wp2_with (first
    | (go_at_call 83; refine (size_any _ _ (by omega) (by omega)).mono ?_; rintro e w' ⟨rfl, rfl⟩; rw [Int.toNat_natCast, ← HL.out])
    | (at_make; refine wpList_make_own _ rfl _ _ 85 rfl w.heap.size 5 i0 (.int .u8 0) 1 Try.underlying85 hi hz0 hz1 _ _ _ L rfl rfl rfl (by rw [hz2]; omega) (by unfold maxLen; omega) (Nat.le_refl _) ?_))
  intro w1 hown1 hg1
  have hb1 : Below w.heap.size w w1 := (Below.refl _ _).grown hg1 (Nat.le_refl _) (by simp)
  clear hg1
  go_wp2
  go_loopw [0, 4, 11] (fun nn b i wr => ∃ (j m : Nat) (acc : List Nat), j + 1 ≤ L ∧ nn = .int .u64 (m : Int) ∧ b = .slice (some ⟨w.heap.size, 0, none⟩) j L ∧ i = .int .i64 (j : Int) ∧
      wr.ownsRow w.heap.size 5 1 (.slice (some ⟨w.heap.size, 0, none⟩) j L) j (bvs acc) ∧ Below w.heap.size w wr ∧ acc ++ putF (9 - j) m = put n ∧ m < 2 ^ (7 * (9 - j) + 1) ∧ acc.length = j)
    (fun _ _ i _ => L - (intOf i).toNat)
  case atStart => exact ⟨0, n, [], by omega, rfl, rfl, rfl, hown1, hb1, by simp [put], by simpa using hn, rfl⟩
  case round =>
    obtain ⟨j, m, acc, hj, rfl, rfl, rfl, hown, hb, hput, hm, hacc⟩ := hrel
    have HO := Lib.hid hown
    have HP := Lib.hid hput
    have HA := Lib.hid hacc
    have HM := Lib.hid hm
    have hm64 : m < 18446744073709551616 := by
      have h1 : 2 ^ (7 * (9 - j) + 1) ≤ 2 ^ 64 := Nat.pow_le_pow_right (by omega) (by omega)
      omega
    have hor := or128 (m % 256 : Int) (by omega) (by omega)
    clear hown hput hacc hm
    have hsz := hb.size
    by_cases hlt : j + 1 < L
    · go_wp2_with (at_builtin; refine wpList_append_fits _ rfl _ _ 85 rfl w.heap.size 5 i0 1 Try.underlying85 hi hz1 w.heap.size j L (bvs acc) rfl (HO.out.alloc _) ⟨wr.heap.size, 0, none⟩ 1 1 [.int .u8 ((m : Int) % 128 + 128)] rfl rfl (cell_new _ _ _) (by intro u hu; simp at hu; subst hu; rfl) (by omega) ?_)
      intro w2 hown2 hg2
      have hb2 : Below w.heap.size w w2 := (hb.alloc hsz _).grown hg2 (by simp; omega) (fun k hk => by cases hk; exact Nat.le_refl _)
      clear hg2
      go_wp2
      go_roundw
      case rel =>
        have hm2 : ¬ m < 128 := by
          intro h
          have h1 := congrArg List.length HP.out
          rw [List.length_append, HA.out, show 9 - j = (9 - j - 1) + 1 by omega, putF, if_pos h, ← HL.out] at h1
          simp at h1; omega
        refine ⟨j + 1, m / 128, acc ++ [m % 128 + 128], by omega, by go_num, rfl, by go_num, ?_, hb2, ?_, ?_, by simp [HA.out]⟩
        · rw [bvs_app]; exact hown2
        · have h1 := HP.out
          rw [show 9 - j = (9 - (j + 1)) + 1 by omega, putF, if_neg hm2] at h1
          rw [List.append_assoc]; exact h1
        · have h1 := HM.out
          rw [show 9 - j = (9 - (j + 1)) + 1 by omega, pow71] at h1
          omega
      case measure => simp [intOf]; omega
    · obtain rfl : L = j + 1 := by omega
      go_wp2_with (at_builtin; refine wpList_append_fits _ rfl _ _ 85 rfl w.heap.size 5 i0 1 Try.underlying85 hi hz1 w.heap.size j (j + 1) (bvs acc) rfl (HO.out.alloc _) ⟨wr.heap.size, 0, none⟩ 1 1 [.int .u8 ((m : Int) % 256)] rfl rfl (cell_new _ _ _) (by intro u hu; simp at hu; subst hu; rfl) (by omega) ?_)
      intro w2 hown2 hg2
      have hb2 : Below w.heap.size w w2 := (hb.alloc hsz _).grown hg2 (by simp; omega) (fun k hk => by cases hk; exact Nat.le_refl _)
      clear hg2
      go_wp2
      go_ret
      refine ⟨_, rfl, ?_, hb2⟩
      have h1 := HP.out
      have h2 := congrArg List.length h1
      rw [List.length_append, HA.out, ← HL.out] at h2
      have h3 : putF (9 - j) m = [m % 256] := by
        have hm9 := HM.out
        generalize 9 - j = f at *
        cases f with
        | zero => simp at hm9; simp [putF]; omega
        | succ f =>
          unfold putF at h2 ⊢
          by_cases hm2 : m < 128
          · rw [if_pos hm2]; simp; omega
          · rw [if_neg hm2] at h2
            have := putF_len f (m / 128)
            simp only [List.length_cons] at h2; omega
      rw [← h1, h3]
      rw [bvs_app, List.length_append, HA.out]
      exact hown2
set_option maxRecDepth 100000 in
theorem put_int (x : Int) (w : World) (h0 : 0 ≤ x) (h1 : x ≤ 18446744073709551615) : Calls Try.prog 81 #[.int .u64 x] w (NewBytes w (put x.toNat)) := by
  obtain ⟨n, rfl⟩ := Int.eq_ofNat_of_zero_le h0
  rw [Int.toNat_natCast]
  exact put_any n w (by omega)
end Go.Proofs.Ytdkjdiamekfbdaa.Vi
