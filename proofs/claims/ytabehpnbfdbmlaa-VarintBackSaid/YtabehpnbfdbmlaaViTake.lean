/-
  The walk of what is taken of bytes.
-/
import Derived.Test.YtabehpnbfdbmlaaViPut
namespace Go.Proofs.Ytabehpnbfdbmlaa.Vi
open Go.RowKit

/-- The three results of what is taken. -/
def taken (r : Nat × Nat × Nat) : Value := .tuple #[.int .u64 (r.1 : Int), .int .i64 (r.2.1 : Int), .int .i64 (r.2.2 : Int)]

theorem taken_of {bs : List Nat} {x k e : Nat} {X K E : Int} (hv : take bs = (x, k, e)) (hx : X = x) (hk : K = k) (he : E = e) :
    Ending.returned (.tuple #[.int .u64 X, .int .i64 K, .int .i64 E]) = .returned (taken (take bs)) := by
  rw [hv, hx, hk, he]; rfl
theorem or_digit (m j c : Nat) (hj : j ≤ 9) (hm : m < 2 ^ (7 * j)) (h9 : j = 9 → c ≤ 1) :
    bits .or .u64 (m : Int) (IntKind.u64.wrap ((c : Int) % 128 * 2 ^ (7 * j))) = ((m + c % 128 * 2 ^ (7 * j) : Nat) : Int) := by
  have hb : c % 128 * 2 ^ (7 * j) < 18446744073709551616 := by
    by_cases h : j = 9
    · have := h9 h
      subst h
      have : c % 128 ≤ 1 := by omega
      have h1 := Nat.mul_le_mul_right (2 ^ (7 * 9)) this
      omega
    · have h1 : 2 ^ (7 * j) ≤ 2 ^ 56 := Nat.pow_le_pow_right (by omega) (by omega)
      have h2 : c % 128 * 2 ^ (7 * j) ≤ 127 * 2 ^ 56 := Nat.mul_le_mul (by omega) h1
      omega
  have hm2 : m < 18446744073709551616 := by
    have h1 : 2 ^ (7 * j) ≤ 2 ^ 63 := Nat.pow_le_pow_right (by omega) (by omega)
    omega
  have e : IntKind.u64.wrap ((c : Int) % 128 * 2 ^ (7 * j)) = ((c % 128 * 2 ^ (7 * j) : Nat) : Int) := by
    have e1 : (c : Int) % 128 * 2 ^ (7 * j) = ((c % 128 * 2 ^ (7 * j) : Nat) : Int) := by simp
    rw [e1, IntKind.wrap_u64]; omega
  rw [e, u64_or_nat _ _ hm2 hb, Nat.or_comm, nat_join (7 * j) _ _ (Nat.mul_mod_left _ _) hm, Nat.add_comm]

theorem tk_less {j m c : Nat} (_hj : j ≤ 9) (hm : m < 2 ^ (7 * j)) : m + c % 128 * 2 ^ (7 * j) < 2 ^ (7 * (j + 1)) := by
  rw [pow7]
  have h1 : c % 128 * 2 ^ (7 * j) ≤ 127 * 2 ^ (7 * j) := Nat.mul_le_mul_right _ (by omega)
  omega

set_option maxHeartbeats 1000000 in
set_option maxRecDepth 100000 in
theorem take_any (A : Option Addr) (n c B : Nat) (bs : List Nat) (w : World) (hb : ∀ c ∈ bs, c < 256) (h : Rd w B 1 A n (bvs bs)) (hmax : n ≤ 9223372036854775807) :
    Calls Try.prog 9 #[.slice A n c] w fun e w' => e = .returned (taken (take bs)) ∧ w = w' := by
  have hlen : bs.length = n := by have := h.1; rw [bvs_len] at this; omega
  have HL := Lib.hid hlen
  have HB := Lib.hid hb
  have HR := Lib.hid h
  clear hlen hb h
  go_enter Try.func9, Try.ntmps9
  go_wp2
  go_step3
  go_wp2
  go_step3
  go_wp2
  go_loop [5, 8] (fun x i => ∃ (j f m : Nat), i = .int .i64 (j : Int) ∧ x = .int .u64 (m : Int) ∧ j + f = 10 ∧ j ≤ n ∧ m < 2 ^ (7 * j) ∧ take bs = tk f j m (bs.drop j)) (fun _ i => 10 - (intOf i).toNat)
  case atStart => exact ⟨0, 10, 0, rfl, rfl, rfl, by omega, by simp, rfl⟩
  case round =>
    obtain ⟨j, f, m, rfl, rfl, hf, hj, hm, hd⟩ := hrel
    have HD := Lib.hid hd
    have HM := Lib.hid hm
    clear hd hm
    by_cases h10 : j < 10
    · obtain ⟨g, rfl⟩ : ∃ g, f = g + 1 := ⟨f - 1, by omega⟩
      by_cases hjn : j = n
      · go_wp2
        go_ret3
        refine ⟨taken_of (x := 0) (k := 0) (e := 2) ?_ rfl rfl rfl, rfl⟩
        rw [HD.out, List.drop_eq_nil_of_le (by have := HL.out; omega)]; rfl
      · obtain ⟨ad, c0, rfl, hc0, hdr, _, hcell⟩ := HR.out.byte HB.out (show j < n by omega)
        have hv := HD.out
        rw [hdr] at hv
        have HV := Lib.hid hv
        have hor := or_digit m j c0 (by omega) HM.out
        have HO := Lib.hid hor
        clear hdr hv hor
        go_wp2
        · have h9 : (j : Int) = 9 := by assumption
          have hc1 : 1 < (c0 : Int) := by assumption
          go_ret3
          exact ⟨taken_of (HV.out.trans (tk_bad (.inl ⟨by omega, by omega⟩))) rfl rfl rfl, rfl⟩
        · have h9 : (j : Int) = 9 := by assumption
          have hc1 := WalkArith.int_eq (show ((c0 : Int) == 0) = true by assumption)
          go_ret3
          exact ⟨taken_of (HV.out.trans (tk_bad (.inr ⟨by omega, by omega⟩))) rfl rfl rfl, rfl⟩
        · have h9 : (j : Int) = 9 := by assumption
          have hc1 : (c0 : Int) ≤ 1 := by assumption
          have hc2 := WalkArith.int_ne (show ((c0 : Int) == 0) = false by assumption)
          go_ret3
          exact ⟨taken_of (HV.out.trans (tk_end (by omega) (by omega))) ((HO.out (fun _ => by omega)).trans (by rw [Nat.mod_eq_of_lt (by omega)])) (by omega) rfl, rfl⟩
        · have h9 : ¬ (j : Int) = 9 := by assumption
          have hj0 : 0 < j := by assumption
          have hc1 := WalkArith.int_eq (show ((c0 : Int) == 0) = true by assumption)
          go_ret3
          exact ⟨taken_of (HV.out.trans (tk_bad (.inr ⟨by omega, by omega⟩))) rfl rfl rfl, rfl⟩
        · have h9 : ¬ (j : Int) = 9 := by assumption
          have hj0 : 0 < j := by assumption
          have hc2 := WalkArith.int_ne (show ((c0 : Int) == 0) = false by assumption)
          have hc3 : (c0 : Int) < 128 := by assumption
          go_ret3
          exact ⟨taken_of (HV.out.trans (tk_end (by omega) (by omega))) ((HO.out (fun _ => by omega)).trans (by rw [Nat.mod_eq_of_lt (by omega)])) (by omega) rfl, rfl⟩
        · have h9 : ¬ (j : Int) = 9 := by assumption
          have hj0 : 0 < j := by assumption
          have hc2 := WalkArith.int_ne (show ((c0 : Int) == 0) = false by assumption)
          have hc3 : 128 ≤ (c0 : Int) := by assumption
          go_round
          case rel => exact ⟨j + 1, g, _, by go_num, congrArg (Value.int .u64) (HO.out (fun _ => by omega)), by omega, by omega, tk_less (by omega) HM.out, HV.out.trans (tk_on (by omega) (by omega))⟩
          case measure => simp [intOf]; omega
        · have hj0 : ¬ 0 < j := by assumption
          have hc3 : (c0 : Int) < 128 := by assumption
          go_ret3
          exact ⟨taken_of (HV.out.trans (tk_end (by omega) (by omega))) ((HO.out (fun _ => by omega)).trans (by rw [Nat.mod_eq_of_lt (by omega)])) (by omega) rfl, rfl⟩
        · have hj0 : ¬ 0 < j := by assumption
          have hc3 : 128 ≤ (c0 : Int) := by assumption
          go_round
          case rel => exact ⟨j + 1, g, _, by go_num, congrArg (Value.int .u64) (HO.out (fun _ => by omega)), by omega, by omega, tk_less (by omega) HM.out, HV.out.trans (tk_on (by omega) (by omega))⟩
          case measure => simp [intOf]; omega
    · go_wp2
      go_ret3
      refine ⟨taken_of (x := 0) (k := 0) (e := 3) ?_ rfl rfl rfl, rfl⟩
      rw [HD.out, show f = 0 by omega]; rfl
end Go.Proofs.Ytabehpnbfdbmlaa.Vi
