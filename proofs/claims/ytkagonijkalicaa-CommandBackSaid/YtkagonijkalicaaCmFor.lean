/-
  The walk of the reference of layer 5: foreign.
-/
import Derived.Test.YtkagonijkalicaaCmMay
set_option linter.unusedVariables false
set_option linter.unusedSimpArgs false
namespace Go.Proofs.Ytkagonijkalicaa
open Go.RowKit
open Cm (Cmd inR inR_iff need needs row mayC mayNum mayChunks mayText foreignC forNum forChunks forText need_bound)

set_option maxHeartbeats 2000000 in
set_option maxRecDepth 100000 in
theorem foreign_any (c : Cmd) (s : Option Addr × Nat) (v : Int) (w : World) (h : RdC w w.heap.size c s) (hc : Cok c) :
    Calls Try.prog 50 #[cagg c s, .int .i64 v] w fun e w' => e = .returned (.bool (foreignC c v)) ∧ Below w.heap.size w w' := by
  obtain ⟨w0, hw0, hk0, hb0, hs0⟩ := box_cmd w c s 24
  obtain ⟨k0, k1, k2, k3, k4, k5, k6, k7⟩ := cblk_cells hk0
  have hsz := strOf_size c.text
  have hl1 := hc.2.2.2.1
  have hl2 := hc.2.2.2.2
  have hr0 := (h.below hb0).more (Nat.le_of_lt hs0)
  have hcr := row_any s.1 c.chunks.length s.2 c.chunks w0 hr0.1 hr0.2.1 hr0.2.2
  have HCR := Lib.hid hcr
  have HW := Lib.hid hw0
  obtain ⟨N, hN⟩ : ∃ N, forNum c = N := ⟨_, rfl⟩
  obtain ⟨C, hC⟩ : ∃ C, forChunks c = C := ⟨_, rfl⟩
  obtain ⟨T, hT⟩ : ∃ T, forText c v = T := ⟨_, rfl⟩
  have hF : foreignC c v = (inR c.kind 1 99 && ((decide (need c.kind = 0) || decide (v < need c.kind)) && (N && (C && T)))) := by unfold foreignC; rw [hN, hC, hT]
  obtain ⟨F, hFF⟩ : ∃ F, foreignC c v = F := ⟨_, rfl⟩
  rw [hFF] at hF
  rw [hFF]
  have HN := Lib.hid hN
  have HC := Lib.hid hC
  have HT := Lib.hid hT
  have HF := Lib.hid hF
  clear hw0 hk0 hr0 hcr hN hC hT hF hFF h hc
  unfold cagg cblk
  go_enter Try.func50, Try.ntmps50
  go_upto_region 1 with fail
  rw [show w.alloc (.cells #[.int .i64 c.kind, .int .i64 c.client, .int .i64 c.seq, .int .i64 c.set, .int .i64 c.id, .int .i64 c.n, .slice s.1 c.chunks.length s.2, .string (strOf c.text)] 24) = w0 from HW.out.symm]
  go_cut [5] (fun b wx => b = .bool N ∧ wx = w0)
  case first =>
    go_wp2_with (go_at_call 42; refine (in_any _ _ _ _).mono ?_; rintro _ _ ⟨rfl, rfl⟩)
    all_goals
      go_meet
      case rel => exact ⟨by rw [← HN.out]; unfold forNum; simp [*], rfl⟩
  case rest =>
    obtain ⟨rfl, hwc⟩ := hcut
    have hwc := hwc.symm
    subst hwc
    go_upto_region 2 with fail
    go_cut [6] (fun b wx => b = .bool C ∧ Below w0.heap.size w0 wx)
    case first =>
      by_cases he : c.chunks.length = 0
      · obtain rfl : C = true := by rw [← HC.out]; unfold forChunks; rw [decide_eq_true he]; rfl
        have q : (((c.chunks.length : Nat) : Int) == 0) = true := by rw [he]; rfl
        clear he
        go_wp2_with fail
        go_meet
        case rel => exact ⟨rfl, Below.refl _ _⟩
      · obtain rfl : C = row c.chunks := by rw [← HC.out]; unfold forChunks; rw [decide_eq_false he]; rfl
        have q : (((c.chunks.length : Nat) : Int) == 0) = false := by rw [beq_eq_false_iff_ne]; omega
        go_wp2_with fail
        refine HCR.out.mono ?_
        rintro e w1 ⟨rfl, hb1⟩
        go_wp2
        go_meet
        case rel => exact ⟨rfl, hb1⟩
    case rest =>
      obtain ⟨rfl, hb1⟩ := hcut
      obtain ⟨w1, rfl⟩ : ∃ w1, w1 = wc := ⟨_, rfl⟩
      replace k0 := (hb1.cell (p := ⟨w.heap.size, 0, none⟩) hs0).trans k0
      replace k7 := (hb1.cell (p := ⟨w.heap.size, 7, none⟩) hs0).trans k7
      have hbw1 := hb0.trans (hb1.mono (Nat.le_of_lt hs0))
      clear k1 k2 k3 k4 k5 k6 HCR hb1 HW
      go_upto_region 3 with fail
      go_cut [7] (fun b wx => b = .bool T ∧ wx = w1)
      case first =>
        have hT := HT.out
        unfold forText at hT
        by_cases he : c.text.length = 0
        · obtain rfl : T = true := by rw [← hT, decide_eq_true he]; rfl
          have q : (((c.text.length : Nat) : Int) == 0) = true := by rw [he]; rfl
          clear he hT
          go_wp2
          go_meet
          case rel => exact ⟨rfl, rfl⟩
        · have q : (((c.text.length : Nat) : Int) == 0) = false := by rw [beq_eq_false_iff_ne]; omega
          rw [decide_eq_false he] at hT
          clear he
          by_cases h3 : 3 ≤ v
          · by_cases h16 : c.text.length ≤ 16
            · obtain rfl : T = true := by rw [← hT, decide_eq_true h3, decide_eq_true h16]; rfl
              clear hT
              go_wp2
              go_meet
              case rel => exact ⟨by first | rfl | (simp; omega), rfl⟩
            · obtain rfl : T = false := by rw [← hT, decide_eq_false h16]; simp
              clear hT
              go_wp2
              go_meet
              case rel => exact ⟨by first | rfl | (simp; omega), rfl⟩
          · obtain rfl : T = false := by rw [← hT, decide_eq_false h3]; simp
            clear hT
            go_wp2
            go_meet
            case rel => exact ⟨rfl, rfl⟩
      case rest =>
        obtain ⟨rfl, hwc⟩ := hcut
        have hwc := hwc.symm
        subst hwc
        go_wp2_with (first
          | (go_at_call 42; refine (in_any _ _ _ _).mono ?_; rintro _ _ ⟨rfl, rfl⟩)
          | (go_at_call 23; refine (rneed_any _ _).mono ?_; rintro _ _ ⟨rfl, rfl⟩))
        all_goals go_ret
        all_goals exact ⟨by rw [HF.out]; first | (simp [*]; done) | (simp [*]; omega) | (simp [*]; intro hh; omega), hbw1⟩
end Go.Proofs.Ytkagonijkalicaa
