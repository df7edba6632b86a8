/-
  The walk of the reference of layer 7: whether a snapshot may be.
-/
import Derived.Test.YtdkjdiamekfbdaaStIn
namespace Go.Proofs.Ytdkjdiamekfbdaa
open Go.RowKit
open Rf (Snp)
open St (snapOk)
open Cm (inR row)

theorem str_empty {t : List Nat} (ht : ∀ b ∈ t, b < 256) : (strOf t).toList.isEmpty = decide (t = []) := by
  have h := str_beq ht (b := []) (by simp)
  rw [← h, show (strOf []).toList = [] by decide +kernel]
  cases (strOf t).toList with
  | nil => rfl
  | cons a l => rfl

set_option maxHeartbeats 4000000 in
set_option maxRecDepth 100000 in
theorem snap7_any (x : Snp) (t : Option Addr × Nat) (next v : Int) (w : World) (h : RdSn w w.heap.size x t) (hx : Snok x) (_hn : I64 next) (_hv : I64 v) :
    Calls Try.prog 38 #[snagg x t, .int .i64 next, .int .i64 v] w fun e w' => e = .returned (.bool (snapOk x (IntKind.i64.wrap (next - 1)) v)) ∧ Below w.heap.size w w' := by
  obtain ⟨w0, hw0, hk0, hb0, hs0⟩ := box_snp w x t 38
  obtain ⟨k0, k1, k2, k3, k4⟩ := snblk_cells hk0
  have hr := (h.below hb0).more hb0.size
  have HC := Lib.hid (row_any t.1 x.chunks.length t.2 x.chunks w0 hr.1 hr.2.1 hr.2.2)
  have HW := Lib.hid hw0
  have hte := str_empty hx.2.2.2
  have hsz := strOf_size x.tag
  have hV : snapOk x (IntKind.i64.wrap (next - 1)) v = (row x.chunks && (inR x.id 1 (IntKind.i64.wrap (next - 1)) && (inR x.set 1 8 && ((!x.held || decide (2 ≤ v)) && (decide (x.tag.length ≤ 16) && (decide (x.tag = []) || decide (3 ≤ v))))))) := rfl
  obtain ⟨M, hM⟩ : ∃ M, IntKind.i64.wrap (next - 1) = M := ⟨_, rfl⟩
  rw [hM] at hV ⊢
  have HV := Lib.hid hV
  obtain ⟨B1, hB1⟩ : ∃ B, row x.chunks = B := ⟨_, rfl⟩
  obtain ⟨B2, hB2⟩ : ∃ B, inR x.id 1 M = B := ⟨_, rfl⟩
  obtain ⟨B3, hB3⟩ : ∃ B, inR x.set 1 8 = B := ⟨_, rfl⟩
  obtain ⟨B4, hB4⟩ : ∃ B, x.held = B := ⟨_, rfl⟩
  obtain ⟨B5, hB5⟩ : ∃ B, decide (x.tag = []) = B := ⟨_, rfl⟩
  rw [hB1] at HC
  rw [hB4] at k3
  rw [hB5] at hte
  rw [hB1, hB2, hB3, hB4, hB5] at hV
  have H2 := Lib.hid hB2
  have H3 := Lib.hid hB3
  have HVV := Lib.hid hV
  clear h hx hw0 hk0 hr hV hB1 hB2 hB3 hB4 hB5 HV
  obtain ⟨R, hR⟩ : ∃ R, snapOk x M v = R := ⟨_, rfl⟩
  rw [hR] at HVV ⊢
  clear hR
  unfold snagg sncells
  go_enter Try.func38, Try.ntmps38
  go_upto_region 1 with fail
  rw [show (w.alloc (.cells #[.int .i64 x.id, .int .i64 x.set, .slice t.1 x.chunks.length t.2, .bool x.held, .string (strOf x.tag)] 38)) = w0 from HW.out.symm]
  go_wp2_with fail
  refine HC.out.mono ?_
  rintro e w1 ⟨rfl, hb1⟩
  have hlt : w.heap.size < w0.heap.size := hs0
  replace k0 := (hb1.cell (p := ⟨w.heap.size, 0, none⟩) hlt).trans k0
  replace k1 := (hb1.cell (p := ⟨w.heap.size, 1, none⟩) hlt).trans k1
  replace k2 := (hb1.cell (p := ⟨w.heap.size, 2, none⟩) hlt).trans k2
  replace k3 := (hb1.cell (p := ⟨w.heap.size, 3, none⟩) hlt).trans k3
  replace k4 := (hb1.cell (p := ⟨w.heap.size, 4, none⟩) hlt).trans k4
  have hbw : Below w.heap.size w w1 := hb0.trans (hb1.mono hb0.size)
  clear hb0 hb1 hs0 hlt
  cases B1 with
  | false =>
    obtain rfl : R = false := by rw [HVV.out]; simp [*]
    go_wp2
    go_ret
    exact ⟨rfl, hbw⟩
  | true =>
    go_wp2_with fail
    refine (in7_e H2.out _).mono ?_
    rintro _ _ ⟨rfl, rfl⟩
    cases B2 with
    | false =>
      obtain rfl : R = false := by rw [HVV.out]; simp [*]
      go_wp2
      go_ret
      exact ⟨rfl, hbw⟩
    | true =>
      go_wp2_with fail
      refine (in7_e H3.out _).mono ?_
      rintro _ _ ⟨rfl, rfl⟩
      cases B3 with
      | false =>
        obtain rfl : R = false := by rw [HVV.out]; simp [*]
        go_wp2
        go_ret
        exact ⟨rfl, hbw⟩
      | true =>
        cases B4 with
        | false =>
          by_cases h5 : x.tag.length ≤ 16
          · cases B5 with
            | true =>
              obtain rfl : R = true := by rw [HVV.out]; simp [*]
              go_wp2
              go_ret
              exact ⟨rfl, hbw⟩
            | false =>
              by_cases h6 : 3 ≤ v
              · obtain rfl : R = true := by rw [HVV.out]; simp [*]
                go_wp2
                go_ret
                exact ⟨rfl, hbw⟩
              · have h6' : (decide (3 ≤ v)) = false := decide_eq_false h6
                obtain rfl : R = false := by rw [HVV.out]; simp [*]
                go_wp2
                go_ret
                exact ⟨rfl, hbw⟩
          · obtain rfl : R = false := by rw [HVV.out]; simp [*]
            go_wp2
            go_ret
            exact ⟨rfl, hbw⟩
        | true =>
          by_cases h4 : 2 ≤ v
          · by_cases h5 : x.tag.length ≤ 16
            · cases B5 with
              | true =>
                obtain rfl : R = true := by rw [HVV.out]; simp [*]
                go_wp2
                go_ret
                exact ⟨rfl, hbw⟩
              | false =>
                by_cases h6 : 3 ≤ v
                · obtain rfl : R = true := by rw [HVV.out]; simp [*]
                  go_wp2
                  go_ret
                  exact ⟨rfl, hbw⟩
                · have h6' : (decide (3 ≤ v)) = false := decide_eq_false h6
                  obtain rfl : R = false := by rw [HVV.out]; simp [*]
                  go_wp2
                  go_ret
                  exact ⟨rfl, hbw⟩
            · obtain rfl : R = false := by rw [HVV.out]; simp [*]
              go_wp2
              go_ret
              exact ⟨rfl, hbw⟩
          · obtain rfl : R = false := by rw [HVV.out]; simp [*]
            go_wp2
            go_ret
            exact ⟨rfl, hbw⟩
end Go.Proofs.Ytdkjdiamekfbdaa
