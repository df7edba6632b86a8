/-
  The walk of the reference's Count.
-/
import Derived.Test.YtcbfcjpmoechlaaRfMem
import Derived.Deep.DeepCutAuto
import Derived.BigQuiet
set_option linter.unusedVariables false
set_option linter.unusedSimpArgs false
namespace Go.Proofs.Ytcbfcjpmoechlaa
open Go.RowKit
open Rf (Snp cnt many)

set_option maxHeartbeats 1000000 in
set_option maxRecDepth 100000 in
theorem count_any (A : Option Addr) (n c : Nat) (l : List Snp) (S : List (Option Addr × Nat)) (x : Int) (w : World) (h : RdS w w.heap.size A n l S) (hnc : n ≤ c) (hmax : c ≤ 9223372036854775807) (hm : many l ≤ 1000000000) :
    Calls Try.prog 24 #[.slice A n c, .int .i64 x] w fun e w' => e = .returned (.int .i64 (cnt l x : Nat)) ∧ w = w' := by
  have HR := Lib.hid h
  have HL := Lib.hid h.1
  have HM := Lib.hid hm
  clear h hm
  go_enter Try.func24, Try.ntmps24
  go_wp2
  go_loop [5, 6] (fun m i => ∃ j : Nat, j ≤ n ∧ i = .int .i64 (j : Int) ∧ m = .int .i64 (cnt (l.take j) x : Nat)) (fun _ i => n - (intOf i).toNat)
  case atStart => exact ⟨0, Nat.zero_le _, rfl, rfl⟩
  case round =>
    obtain ⟨j, hj, rfl, rfl⟩ := hrel
    by_cases hlt : j < n
    · obtain ⟨ad, a, s, rfl, hab, ha, hs, g0, g1, g2, g3, g4, hrd, hs1, hs2⟩ := rds_get HR.out hlt
      have HT := Lib.hid (Rf.cnt_take ha x)
      have HMM := Lib.hid (Rf.many_mem ha)
      have HCL := Lib.hid (Rf.cnt_le (l.take j) x)
      obtain ⟨t, ht⟩ : ∃ t, cnt (l.take j) x = t := ⟨_, rfl⟩
      rw [ht] at HT HCL ⊢
      obtain ⟨s1, s2⟩ := s
      clear ha hs g0 g1 g3 g4 ht
      go_wp2
      go_loop [5, 7] (fun m i => ∃ k : Nat, k ≤ a.chunks.length ∧ i = .int .i64 (k : Int) ∧ m = .int .i64 ((t + (a.chunks.take k).count x : Nat) : Int)) (fun _ i => a.chunks.length - (intOf i).toNat)
      case atStart => exact ⟨0, Nat.zero_le _, rfl, by simp⟩
      case round =>
        obtain ⟨k, hk, rfl, rfl⟩ := hrel
        by_cases hkl : k < a.chunks.length
        · obtain ⟨ac, y, rfl, hac, hy, gy⟩ := hrd.int hkl
          have HC := Lib.hid (Rf.count_take hy x)
          have hle := List.count_le_length (a := x) (l := a.chunks.take k)
          rw [List.length_take] at hle
          obtain ⟨u, hu⟩ : ∃ u, (a.chunks.take k).count x = u := ⟨_, rfl⟩
          rw [hu] at HC hle ⊢
          have hb9 : t + u ≤ 1000000000 := by have := HMM.out; have := HCL.out; have := HM.out; omega
          clear hy hu
          by_cases hyx : y = x
          · subst hyx
            have hc := HC.out
            rw [if_pos rfl] at hc
            have HC2 := Lib.hid hc
            clear hc
            go_wp2
            go_round
            case rel => exact ⟨k + 1, by omega, by go_num, by rw [HC2.out]; go_num⟩
            case measure => simp [intOf]; omega
          · have hc := HC.out
            rw [if_neg hyx] at hc
            have HC2 := Lib.hid hc
            clear hc
            go_wp2
            go_round
            case rel => exact ⟨k + 1, by omega, by go_num, by rw [HC2.out]; rfl⟩
            case measure => simp [intOf]; omega
        · obtain rfl : k = a.chunks.length := by omega
          have ht := HT.out
          rw [← List.take_length (l := a.chunks)] at ht
          have HT2 := Lib.hid ht
          clear ht
          go_wp2
          go_round
          case rel => exact ⟨j + 1, by omega, by go_num, by rw [HT2.out]⟩
          case measure => simp [intOf]; omega
    · obtain rfl : j = n := by omega
      have hfull : l.take j = l := List.take_of_length_le (by have := HL.out; omega)
      have HF := Lib.hid hfull
      clear hfull
      go_wp2
      go_ret
      exact ⟨by rw [HF.out]; rfl, rfl⟩
end Go.Proofs.Ytcbfcjpmoechlaa
