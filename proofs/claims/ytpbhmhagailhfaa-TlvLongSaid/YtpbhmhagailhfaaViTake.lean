/-
  The walk of what is taken of bytes.
-/
import Derived.Test.YtpbhmhagailhfaaWords
import Derived.Test.YtpbhmhagailhfaaViBits
namespace Go.Proofs.Ytpbhmhagailhfaa.Vi
open Go.RowKit

set_option maxHeartbeats 1000000 in
set_option maxRecDepth 100000 in
theorem take_any (A : Option Addr) (n c B : Nat) (bs : List Nat) (w : World) (hb : ∀ c ∈ bs, c < 256) (h : Rd w B 1 A n (bvs bs)) (hmax : n ≤ 9223372036854775807) :
    Calls Try.prog 38 #[.slice A n c] w fun e w' => e = .returned (taken (take bs)) ∧ w = w' := by
  have hlen : bs.length = n := by have := h.1; rw [bvs_len] at this; omega
  have HL := Lib.hid hlen
  have HB := Lib.hid hb
  have HR := Lib.hid h
  clear hlen hb h
  go_enter Try.func38, Try.ntmps38
  go_wp2
  go_step3
  go_wp2
  go_step3
  go_wp2
  go_loop [5, 8] (fun x i => ∃ (j f m : Nat), i = .int .i64 (j : Int) ∧ x = .int .u64 (m : Int) ∧ j + f = 10 ∧ j ≤ n ∧ m < 2 ^ (7 * j) ∧ take bs = tk f j m (bs.drop j)) (fun _ i => 10 - (intOf i).toNat)
  case atStart => exact ⟨0, 10, 0, rfl, rfl, rfl, by omega, by simp, rfl⟩
  case round =>
    obtain ⟨j, f, m, rfl, rfl, hf, hj, hm, hd⟩ := hrel
    have HD := Lib.hid hd
    have HM := Lib.hid hm
    clear hd hm
    by_cases h10 : j < 10
    · obtain ⟨g, rfl⟩ : ∃ g, f = g + 1 := ⟨f - 1, by omega⟩
      by_cases hjn : j = n
      · go_wp2
        go_ret3
        refine ⟨taken_of (x := 0) (k := 0) (e := 2) ?_ rfl rfl rfl, rfl⟩
        rw [HD.out, List.drop_eq_nil_of_le (by have := HL.out; omega)]; rfl
      · obtain ⟨ad, c0, rfl, hc0, hdr, _, hcell⟩ := HR.out.byte HB.out (show j < n by omega)
        have hv := HD.out
        rw [hdr] at hv
        have HV := Lib.hid hv
        have hor := or_digit m j c0 (by omega) HM.out
        have HO := Lib.hid hor
        clear hdr hv hor
        go_wp2
        · have h9 : (j : Int) = 9 := by assumption
          have hc1 : 1 < (c0 : Int) := by assumption
          go_ret3
          exact ⟨taken_of (HV.out.trans (tk_bad (.inl ⟨by omega, by omega⟩))) rfl rfl rfl, rfl⟩
        · have h9 : (j : Int) = 9 := by assumption
          have hc1 := WalkArith.int_eq (show ((c0 : Int) == 0) = true by assumption)
          go_ret3
          exact ⟨taken_of (HV.out.trans (tk_bad (.inr ⟨by omega, by omega⟩))) rfl rfl rfl, rfl⟩
        · have h9 : (j : Int) = 9 := by assumption
          have hc1 : (c0 : Int) ≤ 1 := by assumption
          have hc2 := WalkArith.int_ne (show ((c0 : Int) == 0) = false by assumption)
          go_ret3
          exact ⟨taken_of (HV.out.trans (tk_end (by omega) (by omega))) ((HO.out (fun _ => by omega)).trans (by rw [Nat.mod_eq_of_lt (by omega)])) (by omega) rfl, rfl⟩
        · have h9 : ¬ (j : Int) = 9 := by assumption
          have hj0 : 0 < j := by assumption
          have hc1 := WalkArith.int_eq (show ((c0 : Int) == 0) = true by assumption)
          go_ret3
          exact ⟨taken_of (HV.out.trans (tk_bad (.inr ⟨by omega, by omega⟩))) rfl rfl rfl, rfl⟩
        · have h9 : ¬ (j : Int) = 9 := by assumption
          have hj0 : 0 < j := by assumption
          have hc2 := WalkArith.int_ne (show ((c0 : Int) == 0) = false by assumption)
          have hc3 : (c0 : Int) < 128 := by assumption
          go_ret3
          exact ⟨taken_of (HV.out.trans (tk_end (by omega) (by omega))) ((HO.out (fun _ => by omega)).trans (by rw [Nat.mod_eq_of_lt (by omega)])) (by omega) rfl, rfl⟩
        · have h9 : ¬ (j : Int) = 9 := by assumption
          have hj0 : 0 < j := by assumption
          have hc2 := WalkArith.int_ne (show ((c0 : Int) == 0) = false by assumption)
          have hc3 : 128 ≤ (c0 : Int) := by assumption
          go_round
          case rel => exact ⟨j + 1, g, _, by go_num, congrArg (Value.int .u64) (HO.out (fun _ => by omega)), by omega, by omega, tk_less (by omega) HM.out, HV.out.trans (tk_on (by omega) (by omega))⟩
          case measure => simp [intOf]; omega
        · have hj0 : ¬ 0 < j := by assumption
          have hc3 : (c0 : Int) < 128 := by assumption
          go_ret3
          exact ⟨taken_of (HV.out.trans (tk_end (by omega) (by omega))) ((HO.out (fun _ => by omega)).trans (by rw [Nat.mod_eq_of_lt (by omega)])) (by omega) rfl, rfl⟩
        · have hj0 : ¬ 0 < j := by assumption
          have hc3 : 128 ≤ (c0 : Int) := by assumption
          go_round
          case rel => exact ⟨j + 1, g, _, by go_num, congrArg (Value.int .u64) (HO.out (fun _ => by omega)), by omega, by omega, tk_less (by omega) HM.out, HV.out.trans (tk_on (by omega) (by omega))⟩
          case measure => simp [intOf]; omega
    · go_wp2
      go_ret3
      refine ⟨taken_of (x := 0) (k := 0) (e := 3) ?_ rfl rfl rfl, rfl⟩
      rw [HD.out, show f = 0 by omega]; rfl
end Go.Proofs.Ytpbhmhagailhfaa.Vi
