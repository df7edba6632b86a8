/-
  The walks of the reference of layer 5: in, Row.
-/
import Derived.Test.YtdkjdiamekfbdaaCmRowP
import Derived.Test.YtdkjdiamekfbdaaNums
import Derived.Deep.DeepCutAuto
import Derived.BigQuiet
namespace Go.Proofs.Ytdkjdiamekfbdaa
open Go.RowKit
open Cm (inR inR_iff aheadI bad rowGo row rowGo_step row_mem)

set_option maxRecDepth 100000 in
theorem in_any (x a b : Int) (w : World) : Calls Try.prog 76 #[.int .i64 x, .int .i64 a, .int .i64 b] w fun e w' => e = .returned (.bool (inR x a b)) ∧ w = w' := by
  by_cases h1 : a ≤ x
  · by_cases h2 : x ≤ b
    · have HV := Lib.hid (show inR x a b = true by simp [inR, h1, h2])
      go_enter Try.func76, Try.ntmps76
      go_wp2_with fail
      go_ret
      exact ⟨by rw [HV.out]; rfl, rfl⟩
    · have HV := Lib.hid (show inR x a b = false by simp [inR, h1, h2])
      go_enter Try.func76, Try.ntmps76
      go_wp2_with fail
      go_ret
      exact ⟨by rw [HV.out]; rfl, rfl⟩
  · have HV := Lib.hid (show inR x a b = false by simp [inR, h1])
    go_enter Try.func76, Try.ntmps76
    go_wp2_with fail
    go_ret
    exact ⟨by rw [HV.out]; rfl, rfl⟩

theorem in_e {x a b : Int} {v : Bool} (h : inR x a b = v) (w : World) : Calls Try.prog 76 #[.int .i64 x, .int .i64 a, .int .i64 b] w fun e w' => e = .returned (.bool v) ∧ w = w' :=
  (in_any x a b w).mono fun _ _ hh => ⟨by rw [hh.1, h], hh.2⟩
/-- .. for a region that draws its order. -/
theorem in_q {x a b : Int} {v : Bool} (h : inR x a b = v) (w : World) : Calls Try.prog 76 #[.int .i64 x, .int .i64 a, .int .i64 b] w fun e w' => e = .returned (.bool v) ∧ w' = w :=
  (in_any x a b w).mono fun _ _ hh => ⟨by rw [hh.1, h], hh.2.symm⟩

set_option maxHeartbeats 1000000 in
set_option maxRecDepth 100000 in
theorem row_any (A : Option Addr) (n c : Nat) (l : List Int) (w : World) (h : Rd w w.heap.size 1 A n (ivs l)) (hnc : n ≤ c) (hmax : c ≤ 9223372036854775807) :
    Calls Try.prog 61 #[.slice A n c] w fun e w' => e = .returned (.bool (row l)) ∧ Below w.heap.size w w' := by
  have hlen : l.length = n := by have := h.1; rw [ivs_len] at this; omega
  have HR := Lib.hid h
  have HL := Lib.hid hlen
  clear h hlen
  go_enter Try.func61, Try.ntmps61
  go_wp2
  go_loopw [3] (fun i wr => ∃ j : Nat, j ≤ n ∧ i = .int .i64 (j : Int) ∧ rowGo none l = rowGo (aheadI l j) (l.drop j) ∧ Below w.heap.size w wr) (fun i _ => n - (intOf i).toNat)
  case atStart => exact ⟨0, Nat.zero_le _, rfl, rfl, Below.refl _ _⟩
  case round =>
    obtain ⟨j, hj, rfl, hm, hb⟩ := hrel
    have HM := Lib.hid hm
    clear hm
    by_cases hlt : j < n
    · obtain ⟨ad, x, rfl, hab, hx, g0⟩ := (HR.out.below hb).int hlt
      have HST := Lib.hid (rowGo_step hx (aheadI l j))
      have HX := Lib.hid hx
      clear hx
      obtain ⟨D, hD⟩ : ∃ D, bad (aheadI l j) x = D := ⟨_, rfl⟩
      have HD := Lib.hid hD
      clear hD
      go_upto_region 4 with fail
      go_cut [31] (fun b wx => b = .bool D ∧ Below w.heap.size w wx)
      case first =>
        cases hi : inR x 1 64 with
        | false =>
          obtain rfl : D = true := by rw [← HD.out]; unfold bad; rw [hi]; rfl
          go_quiet (exact Calls.quiet_of_same (in_q hi _))
          go_wp2
          go_meet
          case rel => exact ⟨rfl, bel_drew' hb _⟩
        | true =>
          by_cases hj0 : 0 < j
          · obtain ⟨i, hji⟩ : ∃ i, i = j - 1 := ⟨j - 1, rfl⟩
            have hin : i < n := by omega
            obtain ⟨ad', y, hA, _, hy, g1⟩ := (HR.out.below hb).int hin
            cases hA
            have f1 : IntKind.i64.wrap ((j : Int) - 1) = (i : Int) := by rw [IntKind.wrap_i64]; omega
            have HA := Lib.hid (show aheadI l j = some y by unfold aheadI; rw [if_neg (by omega), ← hji]; exact hy)
            clear hji hy
            by_cases hxy : x ≤ y
            · obtain rfl : D = true := by
                rw [← HD.out]
                unfold bad
                rw [hi, HA.out]; simpa using hxy
              go_quiet (exact Calls.quiet_of_same (in_q hi _))
              go_wp2
              go_meet
              case rel => exact ⟨rfl, bel_drew' hb _⟩
            · obtain rfl : D = false := by
                rw [← HD.out]
                unfold bad
                rw [hi, HA.out]; simpa using hxy
              go_quiet (exact Calls.quiet_of_same (in_q hi _))
              go_wp2
              go_meet
              case rel => exact ⟨rfl, bel_drew' hb _⟩
          · obtain rfl : D = false := by
              rw [← HD.out]
              unfold bad aheadI
              rw [hi, if_pos (by omega)]; rfl
            go_quiet (exact Calls.quiet_of_same (in_q hi _))
            go_wp2
            go_meet
            case rel => exact ⟨rfl, bel_drew' hb _⟩
      case rest =>
        obtain ⟨rfl, hbc⟩ := hcut
        cases D with
        | true =>
          have hf : row l = false := by unfold row; rw [HM.out, HST.out, HD.out]; rfl
          have HV := Lib.hid hf
          clear hf
          go_wp2
          go_ret
          exact ⟨by rw [HV.out]; rfl, hbc⟩
        | false =>
          go_wp2
          go_roundw
          case rel =>
            refine ⟨j + 1, by omega, by go_num, ?_, hbc⟩
            rw [HM.out, HST.out, HD.out, if_neg (by decide)]
            have e : aheadI l (j + 1) = some x := HX.out
            rw [e]
          case measure => simp [intOf]; omega
    · obtain rfl : j = n := by omega
      have hg : rowGo none l = true := by rw [HM.out, List.drop_eq_nil_of_le (by have := HL.out; omega)]; rfl
      have hrow : row l = (decide (1 ≤ j) && decide (j ≤ 8)) := by unfold row; rw [hg, HL.out]; rfl
      have HV := Lib.hid hrow
      clear hg hrow
      by_cases h1 : 1 ≤ j
      · by_cases h8 : j ≤ 8
        · go_wp2
          go_ret
          exact ⟨by rw [HV.out]; simp [h1, h8]; omega, hb⟩
        · go_wp2
          go_ret
          exact ⟨by rw [HV.out]; simp [h8]; omega, hb⟩
      · go_wp2
        go_ret
        exact ⟨by rw [HV.out]; simp [h1], hb⟩

end Go.Proofs.Ytdkjdiamekfbdaa
