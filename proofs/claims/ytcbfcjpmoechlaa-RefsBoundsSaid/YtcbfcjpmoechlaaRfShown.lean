/-
  The walk of the laws' head: the document's example.
-/
import Derived.Test.YtcbfcjpmoechlaaRfProg
set_option linter.unusedVariables false
set_option linter.unusedSimpArgs false
namespace Go.Proofs.Ytcbfcjpmoechlaa
open Go.RowKit
open Rf (Snp)

theorem ad_zero (a : Addr) : a.add 0 = a := by unfold Addr.add; simp
def ex1 : Snp := ⟨1, 0, [3, 5], false, []⟩
def ex2 : Snp := ⟨2, 0, [5], false, []⟩
theorem ex_freed : Rf.freed [ex1, ex2] 1 = [3] := by decide +kernel
theorem ex_distinct : Rf.distinct [ex1, ex2] = 2 := by decide +kernel
theorem ex_many : Rf.many [ex1, ex2] = 3 := by decide +kernel
theorem ex_ok : ∀ a ∈ [ex1, ex2], Snok a := by
  intro a ha
  simp at ha
  rcases ha with rfl | rfl
  · exact ⟨by simp [I64, ex1], by simp [I64, ex1], by simp [I64, ex1], by simp [ex1]⟩
  · exact ⟨by simp [I64, ex2], by simp [I64, ex2], by simp [I64, ex2], by simp [ex2]⟩

set_option maxHeartbeats 1000000 in
set_option maxRecDepth 100000 in
theorem rfshown_any (w : World) : Calls Try.prog 8 #[] w fun e w' => e = .returned (.bool true) ∧ Below w.heap.size w w' := by
  obtain ⟨w1, hw1⟩ : ∃ w1 : World, w1 = w.alloc (.cells #[.int .i64 3, .int .i64 5] 3) := ⟨_, rfl⟩
  obtain ⟨w2, hw2⟩ : ∃ w2 : World, w2 = w1.alloc (.cells #[.int .i64 5] 3) := ⟨_, rfl⟩
  obtain ⟨w3, hw3⟩ : ∃ w3 : World, w3 = w2.alloc (.cells #[.int .i64 1, .int .i64 0, .slice (some ⟨w.heap.size, 0, none⟩) 2 2, .bool false, .string ⟨#[]⟩, .int .i64 2, .int .i64 0, .slice (some ⟨w.heap.size + 1, 0, none⟩) 1 1, .bool false, .string ⟨#[]⟩] 36) := ⟨_, rfl⟩
  have s1 : w1.heap.size = w.heap.size + 1 := by rw [hw1]; simp
  have s2 : w2.heap.size = w.heap.size + 1 + 1 := by rw [hw2]; simp [s1]
  have s3 : w3.heap.size = w.heap.size + 1 + 1 + 1 := by rw [hw3]; simp [s2]
  have b1 : Below w.heap.size w w1 := by rw [hw1]; exact (Below.refl _ _).alloc (Nat.le_refl _) _
  have b12 : Below (w.heap.size + 1) w1 w2 := by rw [hw2]; exact (Below.refl _ _).alloc (by omega) _
  have b23 : Below (w.heap.size + 1 + 1) w2 w3 := by rw [hw3]; exact (Below.refl _ _).alloc (by omega) _
  have hb : Below w.heap.size w w3 := b1.trans ((b12.mono (by omega)).trans (b23.mono (by omega)))
  have r1 : Rd w3 w3.heap.size 1 (some ⟨w.heap.size, 0, none⟩) 2 (ivs [3, 5]) := by
    have h : Rd w1 (w.heap.size + 1) 1 (some ⟨w.heap.size, 0, none⟩) 2 (ivs [3, 5]) := by rw [hw1]; exact rd_new w [.int .i64 3, .int .i64 5] 3
    exact ((h.below b12).below (b23.mono (by omega))).more (by omega)
  have r2 : Rd w3 w3.heap.size 1 (some ⟨w.heap.size + 1, 0, none⟩) 1 (ivs [5]) := by
    have h : Rd w2 (w.heap.size + 1 + 1) 1 (some ⟨w.heap.size + 1, 0, none⟩) 1 (ivs [5]) := by
      have := rd_new w1 [.int .i64 5] 3
      rw [← hw2, s1] at this
      exact this
    exact (h.below b23).more (by omega)
  have r3 : Rd w3 w3.heap.size 5 (some ⟨w.heap.size + 1 + 1, 0, none⟩) 2 (pcells sncells [ex1, ex2] [(some ⟨w.heap.size, 0, none⟩, 2), (some ⟨w.heap.size + 1, 0, none⟩, 1)]) := by
    have := rd_cells w2 (size := 5) (n := 2) (pcells sncells [ex1, ex2] [(some ⟨w.heap.size, 0, none⟩, 2), (some ⟨w.heap.size + 1, 0, none⟩, 1)]) 36 rfl
    rw [s2] at this
    rw [s3, hw3]
    exact this
  have hrd : RdS w3 w3.heap.size (some ⟨w.heap.size + 1 + 1, 0, none⟩) 2 [ex1, ex2] [(some ⟨w.heap.size, 0, none⟩, 2), (some ⟨w.heap.size + 1, 0, none⟩, 1)] :=
    ⟨rfl, rfl, r3, ((Inn.one (inn := sninn) (f := ex1) (s := (some ⟨w.heap.size, 0, none⟩, 2)) r1 (Nat.le_refl 2) (by simp)).app (Inn.one (inn := sninn) (f := ex2) (s := (some ⟨w.heap.size + 1, 0, none⟩, 1)) r2 (Nat.le_refl 1) (by simp))).2⟩
  have hcall := freed_r _ 2 2 _ _ 1 w3 hrd (Nat.le_refl _) (by omega) (by omega) (by rw [ex_many]; omega) ex_ok (by simp [I64])
  rw [ex_freed] at hcall
  have HC := Lib.hid hcall
  have HW := Lib.hid (show ((w.alloc (.cells #[.int .i64 3, .int .i64 5] 3)).alloc (.cells #[.int .i64 5] 3)).alloc (.cells #[.int .i64 1, .int .i64 0, .slice (some ⟨w.heap.size, 0, none⟩) 2 2, .bool false, .string ⟨#[]⟩, .int .i64 2, .int .i64 0, .slice (some ⟨w.heap.size + 1, 0, none⟩) 1 1, .bool false, .string ⟨#[]⟩] 36) = w3 by rw [hw3, hw2, hw1])
  have HRD := Lib.hid hrd
  clear hcall hrd r1 r2 r3 b1 b12 b23 s1 s2 s3 hw1 hw2 hw3
  go_enter Try.func8, Try.ntmps8
  go_upto_region 2 with fail
  rw [HW.out]
  go_wp2_with fail
  refine HC.out.mono ?_
  rintro e w4 ⟨v4, rfl, ⟨A4, n4, c4, rfl, h41, h42, hl4, hr4⟩, hb4⟩
  obtain rfl : n4 = 1 := by rw [← hl4]; rfl
  obtain ⟨ad, x, rfl, hab, hx, g0⟩ := hr4.int (show 0 < 1 by omega)
  obtain rfl : x = 3 := by simpa using hx.symm
  rw [ad_zero] at g0
  have hbw4 := hb.trans (hb4.mono hb.size)
  have hd := distinct_r _ 2 2 _ _ w4 ((HRD.out.below hb4).more hb4.size) (Nat.le_refl _) (by omega) (by omega) (by rw [ex_many]; omega) ex_ok
  rw [ex_distinct, show ((2 : Nat) : Int) = 2 from rfl] at hd
  have HD := Lib.hid hd
  clear hr4 hl4 hx hd
  go_wp2_with fail
  refine HD.out.mono ?_
  rintro e w5 ⟨rfl, hb5⟩
  have g5 := (hb5.cell (p := ad) hab).trans g0
  clear g0
  go_wp2
  go_ret
  exact ⟨rfl, hbw4.trans (hb5.mono hbw4.size)⟩
end Go.Proofs.Ytcbfcjpmoechlaa
