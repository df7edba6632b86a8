/-
  The walks of the landed command's small helpers: holds, rowLength, the closure that goes along a row, rise.
-/
import Derived.Test.YtdkjdiamekfbdaaCmSpan
import Derived.Test.YtdkjdiamekfbdaaNums
import Derived.Deep.DeepCutAuto
import Derived.BigQuiet
namespace Go.Proofs.Ytdkjdiamekfbdaa
open Go.RowKit
open Cm (inR inR_iff Span riseGo riseGo_step)

def span (s : Span) : Value := .agg #[.int .i64 s.a, .int .i64 s.b]
set_option maxRecDepth 100000 in
theorem rowlen_any (w : World) : Calls Try.prog 78 #[] w fun e w' => e = .returned (.agg #[.int .i64 1, .int .i64 8]) ∧ Below w.heap.size w w' := by
  go_enter Try.func78, Try.ntmps78
  go_wp2
  refine bodyPost_ret (results_cell_row rfl _ _ w.heap.size 89 #[.int .i64 1, .int .i64 8] (0, 0) _ rfl (heap_alloc_new w _) Try.underlying89 rfl (by kernel_rfl)) rfl ?_
  exact ⟨rfl, (Below.refl _ _).alloc (Nat.le_refl _) _⟩

set_option maxRecDepth 100000 in
theorem holds_any (s : Span) (x : Int) (w : World) : Calls Try.prog 79 #[span s, .int .i64 x] w fun e w' => e = .returned (.bool (s.holds x)) ∧ Below w.heap.size w w' := by
  obtain ⟨a, b⟩ := s
  unfold span Span.holds
  simp only []
  by_cases h1 : a ≤ x
  · by_cases h2 : x ≤ b
    · have HV := Lib.hid (show inR x a b = true by simp [inR, h1, h2])
      go_enter Try.func79, Try.ntmps79
      go_wp2_with fail
      go_ret
      exact ⟨by rw [HV.out]; rfl, (Below.refl _ _).alloc (Nat.le_refl _) _⟩
    · have HV := Lib.hid (show inR x a b = false by simp [inR, h1, h2])
      go_enter Try.func79, Try.ntmps79
      go_wp2_with fail
      go_ret
      exact ⟨by rw [HV.out]; rfl, (Below.refl _ _).alloc (Nat.le_refl _) _⟩
  · have HV := Lib.hid (show inR x a b = false by simp [inR, h1])
    go_enter Try.func79, Try.ntmps79
    go_wp2_with fail
    go_ret
    exact ⟨by rw [HV.out]; rfl, (Below.refl _ _).alloc (Nat.le_refl _) _⟩

/-- The closure that goes along a row; it keeps the number ahead at g. -/
def riseF (g : Nat) : Value := .func (.func 84) #[] #[.pointer (some ⟨g, 0, none⟩)]
set_option maxRecDepth 100000 in
theorem risingc_any (w : World) : Calls Try.prog 82 #[] w fun e w' => e = .returned (riseF w.heap.size) ∧ Below w.heap.size w w' ∧ w'.heap.size = w.heap.size + 1 ∧ Blk w' w.heap.size 3 #[.int .i64 0] := by
  have hmf : ∀ (fn : Fn) (first cap : Array Value) (w : World), (Instr.makeFunc fn first cap).run Try.prog w = .ok (.func fn first cap) w := fun _ _ _ _ => rfl
  go_enter Try.func82, Try.ntmps82
  go_wp2
  go_ret
  exact ⟨rfl, (Below.refl _ _).alloc (Nat.le_refl _) _, by simp, Blk.new _ _ _⟩

set_option maxRecDepth 100000 in
theorem next_chunk (g : Nat) (p x : Int) (w : World) (hg : Blk w g 3 #[.int .i64 p]) :
    Calls Try.prog 84 #[.int .i64 x, .pointer (some ⟨g, 0, none⟩)] w fun e w' => e = .returned (.bool (decide (p < x) && decide (x ≤ 64))) ∧ Below g w w' ∧ w'.heap.size = w.heap.size ∧ Blk w' g 3 #[.int .i64 x] ∧ w.grownBy w' (some g) := by
  have c0 := hg.cell 0
  have z0 := hg.frozen 0
  simp at c0
  have hend : Below g w (w.setCell ⟨g, 0, none⟩ (.int .i64 x)) ∧ (w.setCell ⟨g, 0, none⟩ (.int .i64 x)).heap.size = w.heap.size ∧ Blk (w.setCell ⟨g, 0, none⟩ (.int .i64 x)) g 3 #[.int .i64 x] ∧ w.grownBy (w.setCell ⟨g, 0, none⟩ (.int .i64 x)) (some g) :=
    ⟨(Below.refl _ _).setCell (by simp) _, by simp [World.setCell], by simpa using hg.put 0 (.int .i64 x), ⟨rfl, rfl, rfl, by simp [World.setCell], fun k _ hk => Below.heap_setCell w ⟨g, 0, none⟩ (.int .i64 x) k (by simpa using hk)⟩⟩
  have HE := Lib.hid hend
  obtain ⟨D, hD⟩ : ∃ D, (decide (p < x) && decide (x ≤ 64)) = D := ⟨_, rfl⟩
  rw [hD]
  clear hend hg
  by_cases h1 : p < x
  · by_cases h2 : x ≤ 64
    · obtain rfl : D = true := by rw [← hD]; simp [h1, h2]
      clear hD
      go_enter Try.func84, Try.ntmps84
      go_wp2_with fail
      go_ret
      exact ⟨rfl, HE.out⟩
    · obtain rfl : D = false := by rw [← hD]; simp [h1, h2]
      clear hD
      go_enter Try.func84, Try.ntmps84
      go_wp2_with fail
      go_ret
      exact ⟨rfl, HE.out⟩
  · obtain rfl : D = false := by rw [← hD]; simp [h1]
    clear hD
    go_enter Try.func84, Try.ntmps84
    go_wp2_with fail
    go_ret
    exact ⟨rfl, HE.out⟩

/-- The number ahead of the j-th, 0 of the first. -/
def aheadZ (l : List Int) (j : Nat) : Int := (Cm.aheadI l j).getD 0
theorem aheadZ_next {l : List Int} {j : Nat} {x : Int} (h : l[j]? = some x) : aheadZ l (j + 1) = x := by
  unfold aheadZ Cm.aheadI
  rw [if_neg (by omega), Nat.add_sub_cancel, h]; rfl

set_option maxHeartbeats 1000000 in
set_option maxRecDepth 100000 in
theorem rise_chunks (A : Option Addr) (n c : Nat) (l : List Int) (w : World) (h : Rd w w.heap.size 1 A n (ivs l)) (hnc : n ≤ c) (hmax : c ≤ 9223372036854775807) :
    Calls Try.prog 80 #[.slice A n c] w fun e w' => e = .returned (.bool (riseGo 0 l)) ∧ Below w.heap.size w w' := by
  have hlen : l.length = n := by have := h.1; rw [ivs_len] at this; omega
  have HR := Lib.hid h
  have HL := Lib.hid hlen
  clear h hlen
  go_enter Try.func80, Try.ntmps80
  go_wp2_with fail
  refine (risingc_any w).mono ?_
  rintro e w1 ⟨rfl, hb1, hs1, hg1⟩
  obtain ⟨g, hg⟩ : ∃ g, g = w.heap.size := ⟨_, rfl⟩
  rw [← hg] at hg1 ⊢
  have HG := Lib.hid hg
  have HG1 := Lib.hid hg1
  clear hg hg1
  unfold riseF
  go_wp2
  go_loopw [9] (fun i wr => ∃ j : Nat, j ≤ n ∧ i = .int .i64 (j : Int) ∧ riseGo 0 l = riseGo (aheadZ l j) (l.drop j) ∧ Blk wr g 3 #[.int .i64 (aheadZ l j)] ∧ Below w.heap.size w wr) (fun i _ => n - (intOf i).toNat)
  case atStart => exact ⟨0, Nat.zero_le _, rfl, rfl, HG1.out, hb1⟩
  case round =>
    obtain ⟨j, hj, rfl, hm, hgr, hb⟩ := hrel
    have HM := Lib.hid hm
    have HGR := Lib.hid hgr
    clear hm hgr
    by_cases hlt : j < n
    · obtain ⟨ad, x, rfl, hab, hx, g0⟩ := (HR.out.below hb).int hlt
      have HST := Lib.hid (riseGo_step hx (aheadZ l j))
      have HAZ := Lib.hid (aheadZ_next hx)
      clear hx
      obtain ⟨D, hD⟩ : ∃ D, (decide (aheadZ l j < x) && decide (x ≤ 64)) = D := ⟨_, rfl⟩
      have HC := Lib.hid (next_chunk g (aheadZ l j) x wr HGR.out)
      rw [hD] at HC
      have HD := Lib.hid hD
      clear hD
      go_wp2_with fail
      refine HC.out.mono ?_
      rintro e w2 ⟨rfl, hb2, hs2, hg2, _⟩
      have hbw2 : Below w.heap.size w w2 := hb.trans (hb2.mono (by rw [HG.out]; exact Nat.le_refl _))
      cases D with
      | true =>
        go_wp2
        go_roundw
        case rel =>
          refine ⟨j + 1, by omega, by go_num, ?_, by rw [HAZ.out]; exact hg2, hbw2⟩
          rw [HM.out, HST.out, HD.out, HAZ.out, Bool.true_and]
        case measure => simp [intOf]; omega
      | false =>
        go_wp2
        go_ret
        exact ⟨by rw [HM.out, HST.out, HD.out]; rfl, hbw2⟩
    · obtain rfl : j = n := by omega
      have hv : riseGo 0 l = true := by
        rw [HM.out, List.drop_of_length_le (by have := HL.out; omega)]; rfl
      have HV := Lib.hid hv
      clear hv
      go_wp2
      go_ret
      exact ⟨by rw [HV.out]; rfl, hb⟩
end Go.Proofs.Ytdkjdiamekfbdaa
