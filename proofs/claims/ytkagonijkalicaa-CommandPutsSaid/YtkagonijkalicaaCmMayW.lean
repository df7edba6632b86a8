/-
  The walk of the reference of layer 5: May.
-/
import Derived.Test.YtkagonijkalicaaCmMay
set_option linter.unusedVariables false
set_option linter.unusedSimpArgs false
namespace Go.Proofs.Ytkagonijkalicaa
open Go.RowKit
open Cm (Cmd inR inR_iff need needs row mayC mayNum mayChunks mayText foreignC forNum forChunks forText need_bound)

set_option maxHeartbeats 4000000 in
set_option maxRecDepth 100000 in
theorem rmayc_any (c : Cmd) (s : Option Addr × Nat) (v : Int) (w : World) (h : RdC w w.heap.size c s) (hc : Cok c) :
    Calls Try.prog 25 #[cagg c s, .int .i64 v] w fun e w' => e = .returned (.int .i64 (mayC c v : Nat)) ∧ Below w.heap.size w w' := by
  obtain ⟨w0, hw0, hk0, hb0, hs0⟩ := box_cmd w c s 24
  obtain ⟨k0, k1, k2, k3, k4, k5, k6, k7⟩ := cblk_cells hk0
  have hsz := strOf_size c.text
  have hl1 := hc.2.2.2.1
  have hl2 := hc.2.2.2.2
  have hr0 := (h.below hb0).more (Nat.le_of_lt hs0)
  have hcr := row_any s.1 c.chunks.length s.2 c.chunks w0 hr0.1 hr0.2.1 hr0.2.2
  have HCR := Lib.hid hcr
  have HRC := Lib.hid hr0
  have HW := Lib.hid hw0
  have HB := Lib.hid hk0
  obtain ⟨R, hR⟩ : ∃ R, mayC c v = R := ⟨_, rfl⟩
  rw [hR]
  have HR := Lib.hid hR
  clear hw0 hk0 hr0 hcr hR h hc
  unfold cagg cblk
  cases hv : inR v 1 3 with
  | false =>
    obtain rfl : R = 1 := by rw [← HR.out]; unfold mayC; rw [if_pos (.inl hv)]
    go_enter Try.func25, Try.ntmps25
    go_upto_region 1 with fail
    rw [show w.alloc (.cells #[.int .i64 c.kind, .int .i64 c.client, .int .i64 c.seq, .int .i64 c.set, .int .i64 c.id, .int .i64 c.n, .slice s.1 c.chunks.length s.2, .string (strOf c.text)] 24) = w0 from HW.out.symm]
    go_wp2_with (go_at_call 42; refine (in_e hv _).mono ?_; rintro _ _ ⟨rfl, rfl⟩)
    go_ret
    exact ⟨rfl, hb0⟩
  | true =>
    by_cases hn0 : need c.kind = 0
    · obtain rfl : R = 1 := by rw [← HR.out]; unfold mayC; rw [if_pos (.inr hn0)]
      have q : (need c.kind == 0) = true := by rw [hn0]; rfl
      clear hn0
      go_enter Try.func25, Try.ntmps25
      go_upto_region 1 with fail
      rw [show w.alloc (.cells #[.int .i64 c.kind, .int .i64 c.client, .int .i64 c.seq, .int .i64 c.set, .int .i64 c.id, .int .i64 c.n, .slice s.1 c.chunks.length s.2, .string (strOf c.text)] 24) = w0 from HW.out.symm]
      go_wp2_with (first
        | (go_at_call 42; refine (in_e hv _).mono ?_; rintro _ _ ⟨rfl, rfl⟩)
        | (go_at_call 23; refine (rneed_any _ _).mono ?_; rintro _ _ ⟨rfl, rfl⟩))
      go_ret
      exact ⟨rfl, hb0⟩
    · have q : (need c.kind == 0) = false := by rw [beq_eq_false_iff_ne]; exact hn0
      have hm1 : R = if v < need c.kind then 10 else if mayNum c && (mayChunks c && mayText c) then 0 else 1 := by
        rw [← HR.out]; unfold mayC; rw [if_neg (by rw [hv]; simp [hn0])]
      go_enter Try.func25, Try.ntmps25
      go_upto_region 1 with fail
      rw [show w.alloc (.cells #[.int .i64 c.kind, .int .i64 c.client, .int .i64 c.seq, .int .i64 c.set, .int .i64 c.id, .int .i64 c.n, .slice s.1 c.chunks.length s.2, .string (strOf c.text)] 24) = w0 from HW.out.symm]
      by_cases hnv : v < need c.kind
      · obtain rfl : R = 10 := by rw [hm1, if_pos hnv]
        go_wp2_with (first
          | (go_at_call 42; refine (in_e hv _).mono ?_; rintro _ _ ⟨rfl, rfl⟩)
          | (go_at_call 23; refine (rneed_any _ _).mono ?_; rintro _ _ ⟨rfl, rfl⟩))
        go_ret
        exact ⟨rfl, hb0⟩
      · rw [if_neg hnv] at hm1
        have HM := Lib.hid hm1
        clear hm1
        go_upto_region 6 with (first
          | (go_at_call 42; refine (in_e hv _).mono ?_; rintro _ _ ⟨rfl, rfl⟩)
          | (go_at_call 23; refine (rneed_any _ _).mono ?_; rintro _ _ ⟨rfl, rfl⟩))
        clear hv hn0 q hnv
        obtain ⟨C1, hC1⟩ : ∃ C, needs c.client (decide (c.kind ≠ 8)) 1 8 = C := ⟨_, rfl⟩
        obtain ⟨C2, hC2⟩ : ∃ C, needs c.seq (decide (c.kind ≠ 8) && decide (c.kind ≠ 1)) 1 1048576 = C := ⟨_, rfl⟩
        obtain ⟨C3, hC3⟩ : ∃ C, needs c.set (inR c.kind 2 4) 1 8 = C := ⟨_, rfl⟩
        obtain ⟨C4, hC4⟩ : ∃ C, needs c.id (decide (c.kind = 5) || (decide (c.kind = 7) || inR c.kind 9 11)) 1 1048576 = C := ⟨_, rfl⟩
        obtain ⟨C5, hC5⟩ : ∃ C, needs c.n (decide (c.kind = 6) || (decide (c.kind = 8) || decide (c.kind = 12))) (if c.kind = 8 then 2 else 0) (if c.kind = 8 then 3 else if c.kind = 12 then 64 else 8) = C := ⟨_, rfl⟩
        obtain ⟨C6, hC6⟩ : ∃ C, mayChunks c = C := ⟨_, rfl⟩
        obtain ⟨C7, hC7⟩ : ∃ C, mayText c = C := ⟨_, rfl⟩
        have hRR : R = if (C1 && (C2 && (C3 && (C4 && C5)))) && (C6 && C7) then 0 else 1 := by rw [HM.out, ← hC1, ← hC2, ← hC3, ← hC4, ← hC5, ← hC6, ← hC7]; rfl
        have HRR := Lib.hid hRR
        have H1 := Lib.hid hC1
        have H2 := Lib.hid hC2
        have H3 := Lib.hid hC3
        have H4 := Lib.hid hC4
        have H5 := Lib.hid hC5
        have H6 := Lib.hid hC6
        have H7 := Lib.hid hC7
        clear hRR hC1 hC2 hC3 hC4 hC5 hC6 hC7 HM HR
        go_cut [6] (fun b wx => b = .bool C1 ∧ wx = w0)
        case first =>
          by_cases h8 : c.kind = 8
          · have q : (c.kind != 8) = false := by rw [h8]; rfl
            have e := H1.out
            rw [decide_eq_false (by simpa using h8)] at e
            have H1 := Lib.hid e
            clear h8 e
            go_wp2_with (go_at_call 45; refine (needs_any _ _ _ _ _).mono ?_; rintro _ _ ⟨rfl, rfl⟩)
            go_meet
            case rel => exact ⟨by rw [H1.out], rfl⟩
          · have q : (c.kind != 8) = true := by rw [bne_iff_ne]; exact h8
            have e := H1.out
            rw [decide_eq_true (by simpa using h8)] at e
            have H1 := Lib.hid e
            clear h8 e
            go_wp2_with (go_at_call 45; refine (needs_any _ _ _ _ _).mono ?_; rintro _ _ ⟨rfl, rfl⟩)
            go_meet
            case rel => exact ⟨by rw [H1.out], rfl⟩
        case rest =>
          obtain ⟨rfl, hwc⟩ := hcut
          have hwc := hwc.symm
          subst hwc
          clear k1
          go_upto_region 7 with fail
          go_cut [7] (fun b wx => b = .bool C2 ∧ wx = w0)
          case first =>
            by_cases h8 : c.kind = 8
            · have q : (c.kind != 8) = false := by rw [h8]; rfl
              have e := H2.out
              rw [decide_eq_false (by simpa using h8), Bool.false_and] at e
              have H2 := Lib.hid e
              clear h8 e
              go_wp2_with (go_at_call 45; refine (needs_any _ _ _ _ _).mono ?_; rintro _ _ ⟨rfl, rfl⟩)
              go_meet
              case rel => exact ⟨by rw [H2.out], rfl⟩
            · have q : (c.kind != 8) = true := by rw [bne_iff_ne]; exact h8
              have e := H2.out
              rw [decide_eq_true (by simpa using h8), Bool.true_and] at e
              by_cases h1 : c.kind = 1
              · have q1 : (c.kind != 1) = false := by rw [h1]; rfl
                rw [decide_eq_false (by simpa using h1)] at e
                have H2 := Lib.hid e
                clear h1 h8 e
                go_wp2_with (go_at_call 45; refine (needs_any _ _ _ _ _).mono ?_; rintro _ _ ⟨rfl, rfl⟩)
                go_meet
                case rel => exact ⟨by rw [H2.out], rfl⟩
              · have q1 : (c.kind != 1) = true := by rw [bne_iff_ne]; exact h1
                rw [decide_eq_true (by simpa using h1)] at e
                have H2 := Lib.hid e
                clear h1 h8 e
                go_wp2_with (go_at_call 45; refine (needs_any _ _ _ _ _).mono ?_; rintro _ _ ⟨rfl, rfl⟩)
                go_meet
                case rel => exact ⟨by rw [H2.out], rfl⟩
          case rest =>
            obtain ⟨rfl, hwc⟩ := hcut
            have hwc := hwc.symm
            subst hwc
            clear k2
            go_upto_region 8 with fail
            go_cut [8] (fun b wx => b = .bool C3 ∧ Below w0.heap.size w0 wx)
            case first =>
              go_quiet (first
                | (exact Calls.quiet_of_same (in_q rfl _))
                | (exact Calls.quiet_of_same ((needs_any _ _ _ _ _).mono fun _ _ hh => ⟨hh.1, hh.2.symm⟩)))
              go_wp2
              go_meet
              case rel => exact ⟨by rw [← H3.out], bel_drewN (Below.refl _ _) _⟩
            case rest =>
              obtain ⟨rfl, hb1⟩ := hcut
              obtain ⟨w1, rfl⟩ : ∃ w1, w1 = wc := ⟨_, rfl⟩
              replace k4 := (hb1.cell (p := ⟨w.heap.size, 4, none⟩) hs0).trans k4
              replace k5 := (hb1.cell (p := ⟨w.heap.size, 5, none⟩) hs0).trans k5
              replace k6 := (hb1.cell (p := ⟨w.heap.size, 6, none⟩) hs0).trans k6
              replace k7 := (hb1.cell (p := ⟨w.heap.size, 7, none⟩) hs0).trans k7
              have hs1 : w.heap.size < w1.heap.size := Nat.lt_of_lt_of_le hs0 hb1.size
              clear k0 k3
              go_upto_region 9 with fail
              go_cut [9] (fun b wx => b = .bool C4 ∧ Below w1.heap.size w1 wx)
              case first =>
                by_cases h5 : c.kind = 5
                · have q5 : (c.kind == 5) = true := by rw [h5]; rfl
                  have e := H4.out
                  rw [decide_eq_true h5, Bool.true_or] at e
                  have H4 := Lib.hid e
                  clear h5 e
                  go_quiet (first
                    | (exact Calls.quiet_of_same (in_q rfl _))
                    | (exact Calls.quiet_of_same ((needs_any _ _ _ _ _).mono fun _ _ hh => ⟨hh.1, hh.2.symm⟩)))
                  go_wp2
                  go_meet
                  case rel => exact ⟨by rw [← H4.out], bel_drewN (Below.refl _ _) _⟩
                · have q5 : (c.kind == 5) = false := by rw [beq_eq_false_iff_ne]; exact h5
                  have e := H4.out
                  rw [decide_eq_false h5, Bool.false_or] at e
                  by_cases h7 : c.kind = 7
                  · have q7 : (c.kind == 7) = true := by rw [h7]; rfl
                    rw [decide_eq_true h7, Bool.true_or] at e
                    have H4 := Lib.hid e
                    clear h5 h7 e
                    go_quiet (first
                      | (exact Calls.quiet_of_same (in_q rfl _))
                      | (exact Calls.quiet_of_same ((needs_any _ _ _ _ _).mono fun _ _ hh => ⟨hh.1, hh.2.symm⟩)))
                    go_wp2
                    go_meet
                    case rel => exact ⟨by rw [← H4.out], bel_drewN (Below.refl _ _) _⟩
                  · have q7 : (c.kind == 7) = false := by rw [beq_eq_false_iff_ne]; exact h7
                    rw [decide_eq_false h7, Bool.false_or] at e
                    have H4 := Lib.hid e
                    clear h5 h7 e
                    go_quiet (first
                      | (exact Calls.quiet_of_same (in_q rfl _))
                      | (exact Calls.quiet_of_same ((needs_any _ _ _ _ _).mono fun _ _ hh => ⟨hh.1, hh.2.symm⟩)))
                    go_wp2
                    go_meet
                    case rel => exact ⟨by rw [← H4.out], bel_drewN (Below.refl _ _) _⟩
              case rest =>
                obtain ⟨rfl, hb2⟩ := hcut
                obtain ⟨w2, rfl⟩ : ∃ w2, w2 = wc := ⟨_, rfl⟩
                replace k5 := (hb2.cell (p := ⟨w.heap.size, 5, none⟩) hs1).trans k5
                replace k6 := (hb2.cell (p := ⟨w.heap.size, 6, none⟩) hs1).trans k6
                replace k7 := (hb2.cell (p := ⟨w.heap.size, 7, none⟩) hs1).trans k7
                have hb02 : Below w0.heap.size w0 w2 := hb1.trans (hb2.mono hb1.size)
                have hs2 : w.heap.size < w2.heap.size := Nat.lt_of_lt_of_le hs1 hb2.size
                clear k4 hb1 hb2 hs1
                obtain ⟨lo, hlo⟩ : ∃ lo : Int, (if c.kind = 8 then 2 else 0) = lo := ⟨_, rfl⟩
                obtain ⟨hi, hhi⟩ : ∃ hi : Int, (if c.kind = 8 then 3 else if c.kind = 12 then 64 else 8) = hi := ⟨_, rfl⟩
                have e5 := H5.out
                rw [hlo, hhi] at e5
                have H5 := Lib.hid e5
                have HLO := Lib.hid hlo
                have HHI := Lib.hid hhi
                clear e5 hlo hhi
                go_upto_if 64 with fail
                obtain ⟨h8v, hh8⟩ : ∃ x : Int, (if c.kind = 8 then 3 else 8) = x := ⟨_, rfl⟩
                have HH8 := Lib.hid hh8
                clear hh8
                go_cut [10, 11] (fun a b wx => a = .int .i64 lo ∧ b = .int .i64 h8v ∧ wx = w2)
                case first =>
                  by_cases h8 : c.kind = 8
                  · have q : (c.kind == 8) = true := by rw [h8]; rfl
                    obtain rfl : lo = 2 := by rw [← HLO.out, if_pos h8]
                    obtain rfl : h8v = 3 := by rw [← HH8.out, if_pos h8]
                    clear h8
                    go_wp2
                    go_meet
                    case rel => exact ⟨rfl, rfl, rfl⟩
                  · have q : (c.kind == 8) = false := by rw [beq_eq_false_iff_ne]; exact h8
                    obtain rfl : lo = 0 := by rw [← HLO.out, if_neg h8]
                    obtain rfl : h8v = 8 := by rw [← HH8.out, if_neg h8]
                    clear h8
                    go_wp2
                    go_meet
                    case rel => exact ⟨rfl, rfl, rfl⟩
                case rest =>
                  obtain ⟨rfl, rfl, hwc⟩ := hcut
                  have hwc := hwc.symm
                  subst hwc
                  go_upto_if 66 with fail
                  go_cut [11] (fun b wx => b = .int .i64 hi ∧ wx = w2)
                  case first =>
                    by_cases h12 : c.kind = 12
                    · have q : (c.kind == 12) = true := by rw [h12]; rfl
                      obtain rfl : hi = 64 := by rw [← HHI.out, if_neg (by omega), if_pos h12]
                      clear h12
                      go_wp2
                      go_meet
                      case rel => exact ⟨rfl, rfl⟩
                    · have q : (c.kind == 12) = false := by rw [beq_eq_false_iff_ne]; exact h12
                      have e := HHI.out
                      rw [if_neg h12, HH8.out] at e
                      obtain rfl : hi = h8v := e.symm
                      clear h12 e
                      go_wp2
                      go_meet
                      case rel => exact ⟨rfl, rfl⟩
                  case rest =>
                    obtain ⟨rfl, hwc⟩ := hcut
                    have hwc := hwc.symm
                    subst hwc
                    go_upto_region 17 with fail
                    go_cut [12] (fun b wx => b = .bool C5 ∧ wx = w2)
                    case first =>
                      have e := H5.out
                      by_cases h6 : c.kind = 6
                      · have q6 : (c.kind == 6) = true := by rw [h6]; rfl
                        rw [decide_eq_true h6, Bool.true_or] at e
                        have H5 := Lib.hid e
                        clear h6 e
                        go_wp2_with (go_at_call 45; refine (needs_any _ _ _ _ _).mono ?_; rintro _ _ ⟨rfl, rfl⟩)
                        go_meet
                        case rel => exact ⟨by rw [H5.out], rfl⟩
                      · have q6 : (c.kind == 6) = false := by rw [beq_eq_false_iff_ne]; exact h6
                        rw [decide_eq_false h6, Bool.false_or] at e
                        by_cases h8 : c.kind = 8
                        · have q8 : (c.kind == 8) = true := by rw [h8]; rfl
                          rw [decide_eq_true h8, Bool.true_or] at e
                          have H5 := Lib.hid e
                          clear h6 h8 e
                          go_wp2_with (go_at_call 45; refine (needs_any _ _ _ _ _).mono ?_; rintro _ _ ⟨rfl, rfl⟩)
                          go_meet
                          case rel => exact ⟨by rw [H5.out], rfl⟩
                        · have q8 : (c.kind == 8) = false := by rw [beq_eq_false_iff_ne]; exact h8
                          rw [decide_eq_false h8, Bool.false_or] at e
                          have H5 := Lib.hid e
                          obtain ⟨q12, hq12⟩ : ∃ q, decide (c.kind = 12) = q := ⟨_, rfl⟩
                          rw [hq12] at H5
                          have q9 : (c.kind == 12) = q12 := by rw [← hq12]; rfl
                          clear h6 h8 e hq12
                          go_wp2_with (go_at_call 45; refine (needs_any _ _ _ _ _).mono ?_; rintro _ _ ⟨rfl, rfl⟩)
                          go_meet
                          case rel => exact ⟨by rw [H5.out], rfl⟩
                    case rest =>
                      obtain ⟨rfl, hwc⟩ := hcut
                      have hwc := hwc.symm
                      subst hwc
                      clear k5
                      go_upto_if 87 with fail
                      go_cut [13] (fun b wx => b = .bool C6 ∧ Below w2.heap.size w2 wx)
                      case first =>
                        have e := H6.out
                        unfold mayChunks at e
                        by_cases h3 : c.kind = 3
                        · have q : (c.kind == 3) = true := by rw [h3]; rfl
                          rw [if_pos h3] at e
                          have H6 := Lib.hid e
                          have hcr := row_any s.1 c.chunks.length s.2 c.chunks w2 ((HRC.out.below hb02).more hb02.size).1 HRC.out.2.1 HRC.out.2.2
                          have HCR := Lib.hid hcr
                          clear h3 e hcr
                          go_wp2_with fail
                          refine HCR.out.mono ?_
                          rintro _ w3 ⟨rfl, hb3⟩
                          go_wp2
                          go_meet
                          case rel => exact ⟨by rw [H6.out], hb3⟩
                        · have q : (c.kind == 3) = false := by rw [beq_eq_false_iff_ne]; exact h3
                          rw [if_neg h3] at e
                          by_cases hz : c.chunks.length = 0
                          · have qz : (((c.chunks.length : Nat) : Int) == 0) = true := by rw [hz]; rfl
                            rw [decide_eq_true hz] at e
                            have H6 := Lib.hid e
                            clear h3 e hz
                            go_wp2
                            go_meet
                            case rel => exact ⟨by rw [← H6.out], Below.refl _ _⟩
                          · have qz : (((c.chunks.length : Nat) : Int) == 0) = false := by rw [beq_eq_false_iff_ne]; omega
                            rw [decide_eq_false hz] at e
                            have H6 := Lib.hid e
                            clear h3 e hz
                            go_wp2
                            go_meet
                            case rel => exact ⟨by rw [← H6.out], Below.refl _ _⟩
                      case rest =>
                        obtain ⟨rfl, hb3⟩ := hcut
                        obtain ⟨w3, rfl⟩ : ∃ w3, w3 = wc := ⟨_, rfl⟩
                        replace k7 := (hb3.cell (p := ⟨w.heap.size, 7, none⟩) hs2).trans k7
                        have hb03 : Below w.heap.size w w3 := hb0.trans ((hb02.trans (hb3.mono hb02.size)).mono (Nat.le_of_lt hs0))
                        clear k6 hb3
                        go_upto_region 21 with fail
                        go_cut [14] (fun b wx => b = .bool C7 ∧ wx = w3)
                        case first =>
                          have e := H7.out
                          unfold mayText at e
                          by_cases he : c.text.length = 0
                          · have q : (((c.text.length : Nat) : Int) == 0) = true := by rw [he]; rfl
                            rw [decide_eq_true he, Bool.true_or] at e
                            have H7 := Lib.hid e
                            clear he e
                            go_wp2
                            go_meet
                            case rel => exact ⟨by rw [← H7.out], rfl⟩
                          · have q : (((c.text.length : Nat) : Int) == 0) = false := by rw [beq_eq_false_iff_ne]; omega
                            rw [decide_eq_false he, Bool.false_or] at e
                            by_cases h11 : c.kind = 11
                            · have q11 : (c.kind == 11) = true := by rw [h11]; rfl
                              rw [decide_eq_true h11, Bool.true_and] at e
                              have H7 := Lib.hid e
                              clear he h11 e
                              go_wp2
                              go_meet
                              case rel => exact ⟨by rw [← H7.out]; first | rfl | (congr 1; rw [decide_eq_decide]; omega), rfl⟩
                            · have q11 : (c.kind == 11) = false := by rw [beq_eq_false_iff_ne]; exact h11
                              rw [decide_eq_false h11, Bool.false_and] at e
                              have H7 := Lib.hid e
                              clear he h11 e
                              go_wp2
                              go_meet
                              case rel => exact ⟨by rw [← H7.out], rfl⟩
                        case rest =>
                          obtain ⟨rfl, hwc⟩ := hcut
                          have hwc := hwc.symm
                          subst hwc
                          clear k7 HCR HRC
                          cases C7 <;> go_wp2
                          all_goals go_ret
                          all_goals exact ⟨by rw [HRR.out]; simp [*], hb03⟩
end Go.Proofs.Ytkagonijkalicaa
