/-
  The walks of the reference's way to lay a number down, and of its size.
-/
import Derived.Test.YtmcbifdfpaooaaaWords
import Derived.Test.YtmcbifdfpaooaaaViBits
namespace Go.Proofs.Ytmcbifdfpaooaaa.Vi
open Go.RowKit

theorem rem128 (x : Int) (h0 : 0 ≤ x) : x.tmod 128 = x % 128 := Int.tmod_eq_emod_of_nonneg h0

set_option maxHeartbeats 1000000 in
set_option maxRecDepth 100000 in
theorem rput_any (n : Nat) (w : World) (hn : n < 18446744073709551616) : Calls Try.prog 32 #[.int .u64 (n : Int)] w (NewBytes w (put n)) := by
  obtain ⟨i0, hi, hz0, hz1, hz2⟩ := info_parts byte_info
  go_enter Try.func32, Try.ntmps32
  go_wp2
  go_loopw [0, 3] (fun nn b wr => ∃ (f m : Nat) (acc : List Nat) (v : Value), nn = .int .u64 (m : Int) ∧ b = v ∧
      wr.ownsRow w.heap.size 5 1 v acc.length (bvs acc) ∧ Below w.heap.size w wr ∧ acc ++ putF f m = put n ∧ m < 2 ^ (7 * f + 1) ∧ acc.length + f = 9)
    (fun nn _ _ => (intOf nn).toNat)
  case atStart => exact ⟨9, n, [], _, rfl, rfl, World.ownsRow_made (e := 5) w #[] 0 (Nat.le_refl _) (by unfold maxLen; omega) rfl, (Below.refl _ _).alloc (Nat.le_refl _) _, rfl, hn, rfl⟩
  case round =>
    obtain ⟨f, m, acc, v, rfl, rfl, hown, hb, hput, hm, hf⟩ := hrel
    have HO := Lib.hid hown
    have HP := Lib.hid hput
    have HF := Lib.hid hf
    have HM := Lib.hid hm
    have hm64 : m < 18446744073709551616 := by
      have h1 : 2 ^ (7 * f + 1) ≤ 2 ^ 64 := Nat.pow_le_pow_right (by omega) (by omega)
      omega
    have hacc : acc.length ≤ 9 := by omega
    clear hown hput hf hm
    have hsz := hb.size
    by_cases hlt : 128 ≤ m
    · go_wp2_with (at_builtin; refine wpList_append_own _ rfl _ _ 37 rfl w.heap.size 5 i0 (.int .u8 0) 1 1 Try.underlying37 hi hz0 hz1 hz2 rfl (by decide) _ acc.length (bvs acc) rfl (HO.out.alloc _) ⟨wr.heap.size, 0, none⟩ 1 1 [.int .u8 ((m : Int) % 128 + 128)] rfl rfl (cell_new _ _ _) (by intro u hu; simp at hu; subst hu; rfl) (by unfold maxLen; omega) (by omega) (by simp; omega) ?_)
      intro v2 w2 hown2 hg2 _
      have hb2 : Below w.heap.size w w2 := (hb.alloc hsz _).grown hg2 (by simp; omega) (fun k hk => ((HO.out.lt k hk).1))
      clear hg2
      go_wp2
      go_roundw
      case rel =>
        obtain ⟨g, rfl⟩ : ∃ g, f = g + 1 := by
          cases f with
          | zero => have := HM.out; simp at this; omega
          | succ g => exact ⟨g, rfl⟩
        refine ⟨g, m / 128, acc ++ [m % 128 + 128], v2, by go_num, rfl, ?_, hb2, ?_, ?_, by have := HF.out; simp; omega⟩
        · rw [bvs_app, List.length_append]; exact hown2
        · have h1 := HP.out
          rw [putF, if_neg (by omega)] at h1
          rw [List.append_assoc]; exact h1
        · have h1 := HM.out
          rw [pow71] at h1
          omega
      case measure => simp [intOf]; omega
    · go_wp2_with (at_builtin; refine wpList_append_own _ rfl _ _ 37 rfl w.heap.size 5 i0 (.int .u8 0) 1 1 Try.underlying37 hi hz0 hz1 hz2 rfl (by decide) _ acc.length (bvs acc) rfl (HO.out.alloc _) ⟨wr.heap.size, 0, none⟩ 1 1 [.int .u8 ((m : Int))] rfl rfl (cell_new _ _ _) (by intro u hu; simp at hu; subst hu; rfl) (by unfold maxLen; omega) (by omega) (by simp; omega) ?_)
      intro v2 w2 hown2 hg2 _
      have hb2 : Below w.heap.size w w2 := (hb.alloc hsz _).grown hg2 (by simp; omega) (fun k hk => ((HO.out.lt k hk).1))
      clear hg2
      go_wp2
      go_ret
      refine ⟨_, rfl, ?_, hb2⟩
      have h3 : putF f m = [m] := by
        cases f with
        | zero => rfl
        | succ f => unfold putF; rw [if_pos (by omega)]
      rw [← HP.out, h3, bvs_app, List.length_append]
      exact hown2

theorem rput_int (x : Int) (w : World) (h0 : 0 ≤ x) (h1 : x ≤ 18446744073709551615) : Calls Try.prog 32 #[.int .u64 x] w (NewBytes w (put x.toNat)) := by
  obtain ⟨n, rfl⟩ := Int.eq_ofNat_of_zero_le h0
  rw [Int.toNat_natCast]
  exact rput_any n w (by omega)


end Go.Proofs.Ytmcbifdfpaooaaa.Vi
