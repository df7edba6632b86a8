/-
  The walks of the reference of layer 6: Counts, Distinct, Without.
-/
import Derived.Test.YtcbfcjpmoechlaaRfCount
set_option linter.unusedVariables false
set_option linter.unusedSimpArgs false
namespace Go.Proofs.Ytcbfcjpmoechlaa
open Go.RowKit
open Rf (Snp cnt many counts countsN distinctN has without freed freedN)

set_option maxHeartbeats 1000000 in
set_option maxRecDepth 100000 in
theorem rcounts_any (A : Option Addr) (n c : Nat) (l : List Snp) (S : List (Option Addr × Nat)) (w : World) (h : RdS w w.heap.size A n l S) (hnc : n ≤ c) (hmax : c ≤ 9223372036854775807) (hm : many l ≤ 1000000000) :
    Calls Try.prog 13 #[.slice A n c] w fun e w' => ∃ v, e = .returned v ∧ NewNums w' (counts l) v ∧ Below w.heap.size w w' := by
  obtain ⟨i0, hi, hz0, hz1, hz2⟩ := info_parts int_info
  have HR := Lib.hid h
  have HM := Lib.hid hm
  clear h hm
  go_enter Try.func13, Try.ntmps13
  go_wp2
  go_loopw [3, 4] (fun v i wr => ∃ j : Nat, j ≤ 64 ∧ i = .int .i64 ((j : Int) + 1) ∧ wr.ownsRow w.heap.size 3 1 v (j + 1) (ivs (countsN l j)) ∧ Below w.heap.size w wr) (fun _ i _ => 66 - (intOf i).toNat)
  case atStart =>
    refine ⟨0, by omega, rfl, ?_, (Below.refl _ _).alloc (Nat.le_refl _) _⟩
    exact own_lit (size := 1) (e := 3) (xs := [.int .i64 0]) rfl (by unfold maxLen; omega) (Nat.le_refl _)
  case round =>
    obtain ⟨j, hj, rfl, hown, hb⟩ := hrel
    have HO := Lib.hid hown
    have hsz := hb.size
    clear hown
    by_cases hlt : j < 64
    · have HE := Lib.hid (Rf.countsN_succ l j)
      have HC := Lib.hid (count_any A n c l S ((j : Int) + 1) wr ((HR.out.below hb).more hsz) hnc hmax HM.out)
      obtain ⟨x, hx⟩ : ∃ x, cnt l ((j : Int) + 1) = x := ⟨_, rfl⟩
      rw [hx] at HC HE
      clear hx
      go_wp2_with fail
      refine HC.out.mono ?_
      rintro _ _ ⟨rfl, rfl⟩
      go_wp2_with (at_builtin; refine wpList_append_rd _ rfl (.tmp 10) (.tmp 14) 23 rfl w.heap.size 3 i0 (.int .i64 0) 1 8 Try.underlying23 hi hz0 hz1 hz2 rfl (by decide) _ (j + 1) _ rfl (HO.out.alloc _) (wr.heap.size + 1) (some ⟨wr.heap.size, 0, none⟩) 1 1 [.int .i64 (x : Int)] rfl (rd_new wr [.int .i64 (x : Int)] 3) (ivs_one [(x : Int)]) (by unfold maxLen; omega) (by omega) (by simp; omega) ?_)
      intro v3 w3 hown3 hg3
      have hb3 : Below w.heap.size w w3 := (hb.alloc hsz _).grown hg3 (by simp; omega) (fun k hk => (HO.out.lt k hk).1)
      clear hg3
      go_wp2
      go_roundw
      case rel => exact ⟨j + 1, by omega, by go_num, by rw [HE.out, ivs_app]; exact hown3, hb3⟩
      case measure => simp [intOf]; omega
    · obtain rfl : j = 64 := by omega
      have hN := nums_of_own (l := counts l) (by rw [Rf.counts_len]; exact HO.out)
      have HN := Lib.hid hN
      clear hN
      go_wp2
      go_ret
      exact ⟨_, rfl, HN.out, hb⟩
end Go.Proofs.Ytcbfcjpmoechlaa
