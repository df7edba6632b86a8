/-
  The walk of the laws' head: the document's example.
-/
import Derived.Test.YtdkjdiamekfbdaaStProg
namespace Go.Proofs.Ytdkjdiamekfbdaa
open Go.RowKit
open Rf (Snp)
open St (Ses Opn Sta mayS clientS openedS snapS keptS)

theorem field_st (c0 c1 c2 c3 c4 c5 c6 : Value) (w : World) : (Instr.field 26 (.agg #[c0, c1, c2, c3, c4, c5, c6]) 1).run Try.prog w = .ok c1 w := by
  have hfo : Try.prog.underlying 26 = some (.struct (Try.prog.fieldsOf 26)) := by kernel_rfl
  unfold Instr.field
  go_simp
  rfl
def sx1 : Snp := ⟨1, 2, [1], false, []⟩
def sx2 : Snp := ⟨2, 2, [1], false, []⟩
def exS : Sta := ⟨1, 3, 1, 0, [], [], [sx1, sx2]⟩
theorem exS_tok : Tok exS := by
  refine ⟨by unfold I64; decide, by unfold I64; decide, by unfold I64; decide, by unfold I64; decide, by simp [exS], by simp [exS], fun a ha => ?_⟩
  simp [exS] at ha
  rcases ha with rfl | rfl
  · exact ⟨by simp [I64, sx1], by simp [I64, sx1], by simp [I64, sx1], by simp [sx1]⟩
  · exact ⟨by simp [I64, sx2], by simp [I64, sx2], by simp [I64, sx2], by simp [sx2]⟩
theorem exS_small : Small exS := ⟨by decide, by decide, by decide, fun a ha => by
  simp [exS] at ha
  rcases ha with rfl | rfl <;> decide⟩
theorem exS_kept0 : keptS exS 0 = false := by decide +kernel
theorem exS_kept1 : keptS exS 1 = true := by decide +kernel
theorem exS_may : mayS exS 1 = 0 := by decide +kernel

def exP (g : Nat) : Pls := ⟨none, 0, 0, none, 0, 0, some ⟨g + 1 + 1, 0, none⟩, 2, 2, [(some ⟨g, 0, none⟩, 1), (some ⟨g + 1, 0, none⟩, 1)]⟩

set_option maxHeartbeats 4000000 in
set_option maxRecDepth 100000 in
theorem stshown_any (u : World) : Calls Try.prog 9 #[] u fun e w' => e = .returned (.bool true) ∧ Below u.heap.size u w' := by
  obtain ⟨w1, hw1⟩ : ∃ w1 : World, w1 = u.alloc (.cells #[.int .i64 1] 3) := ⟨_, rfl⟩
  obtain ⟨w2, hw2⟩ : ∃ w2 : World, w2 = w1.alloc (.cells #[.int .i64 1] 3) := ⟨_, rfl⟩
  obtain ⟨w3, hw3⟩ : ∃ w3 : World, w3 = w2.alloc (.cells #[.int .i64 1, .int .i64 2, .slice (some ⟨u.heap.size, 0, none⟩) 1 1, .bool false, .string ⟨#[]⟩, .int .i64 2, .int .i64 2, .slice (some ⟨u.heap.size + 1, 0, none⟩) 1 1, .bool false, .string ⟨#[]⟩] 38) := ⟨_, rfl⟩
  obtain ⟨w4, hw4⟩ : ∃ w4 : World, w4 = w3.alloc (.cells #[.int .i64 1, .int .i64 3, .int .i64 1, .int .i64 0, .slice none 0 0, .slice none 0 0, .slice (some ⟨u.heap.size + 1 + 1, 0, none⟩) 2 2] 26) := ⟨_, rfl⟩
  have s1 : w1.heap.size = u.heap.size + 1 := by rw [hw1]; simp
  have s2 : w2.heap.size = u.heap.size + 1 + 1 := by rw [hw2]; simp [s1]
  have s3 : w3.heap.size = u.heap.size + 1 + 1 + 1 := by rw [hw3]; simp [s2]
  have s4 : w4.heap.size = u.heap.size + 1 + 1 + 1 + 1 := by rw [hw4]; simp [s3]
  have b1 : Below u.heap.size u w1 := by rw [hw1]; exact (Below.refl _ _).alloc (Nat.le_refl _) _
  have b12 : Below (u.heap.size + 1) w1 w2 := by rw [hw2]; exact (Below.refl _ _).alloc (by omega) _
  have b23 : Below (u.heap.size + 1 + 1) w2 w3 := by rw [hw3]; exact (Below.refl _ _).alloc (by omega) _
  have b34 : Below (u.heap.size + 1 + 1 + 1) w3 w4 := by rw [hw4]; exact (Below.refl _ _).alloc (by omega) _
  have hb : Below u.heap.size u w4 := b1.trans ((b12.mono (by omega)).trans ((b23.mono (by omega)).trans (b34.mono (by omega))))
  have r1 : Rd w4 w4.heap.size 1 (some ⟨u.heap.size, 0, none⟩) 1 (ivs [1]) := by
    have h : Rd w1 (u.heap.size + 1) 1 (some ⟨u.heap.size, 0, none⟩) 1 (ivs [1]) := by rw [hw1]; exact rd_new u [.int .i64 1] 3
    exact (((h.below b12).below (b23.mono (by omega))).below (b34.mono (by omega))).more (by omega)
  have r2 : Rd w4 w4.heap.size 1 (some ⟨u.heap.size + 1, 0, none⟩) 1 (ivs [1]) := by
    have h : Rd w2 (u.heap.size + 1 + 1) 1 (some ⟨u.heap.size + 1, 0, none⟩) 1 (ivs [1]) := by
      have := rd_new w1 [.int .i64 1] 3
      rw [← hw2, s1] at this
      exact this
    exact ((h.below b23).below (b34.mono (by omega))).more (by omega)
  have r3 : Rd w4 w4.heap.size 5 (some ⟨u.heap.size + 1 + 1, 0, none⟩) 2 (pcells sncells [sx1, sx2] [(some ⟨u.heap.size, 0, none⟩, 1), (some ⟨u.heap.size + 1, 0, none⟩, 1)]) := by
    have := rd_cells w2 (size := 5) (n := 2) (pcells sncells [sx1, sx2] [(some ⟨u.heap.size, 0, none⟩, 1), (some ⟨u.heap.size + 1, 0, none⟩, 1)]) 38 rfl
    rw [s2] at this
    have h3 : Rd w3 (u.heap.size + 1 + 1 + 1) 5 (some ⟨u.heap.size + 1 + 1, 0, none⟩) 2 (pcells sncells [sx1, sx2] [(some ⟨u.heap.size, 0, none⟩, 1), (some ⟨u.heap.size + 1, 0, none⟩, 1)]) := by rw [hw3]; exact this
    exact (h3.below b34).more (by omega)
  have hrd : RdS w4 w4.heap.size (some ⟨u.heap.size + 1 + 1, 0, none⟩) 2 [sx1, sx2] [(some ⟨u.heap.size, 0, none⟩, 1), (some ⟨u.heap.size + 1, 0, none⟩, 1)] :=
    ⟨rfl, rfl, r3, ((Inn.one (inn := sninn) (f := sx1) (s := (some ⟨u.heap.size, 0, none⟩, 1)) r1 (Nat.le_refl 1) (by simp)).app (Inn.one (inn := sninn) (f := sx2) (s := (some ⟨u.heap.size + 1, 0, none⟩, 1)) r2 (Nat.le_refl 1) (by simp))).2⟩
  have hrt : RdT w4 w4.heap.size exS (exP u.heap.size) := ⟨RdR.nil _ _ _, RdR.nil _ _ _, hrd, ⟨Nat.le_refl 0, by show 0 ≤ _; omega⟩, ⟨Nat.le_refl 0, by show 0 ≤ _; omega⟩, ⟨Nat.le_refl 2, by show 2 ≤ _; omega⟩⟩
  have HRT := Lib.hid hrt
  have hk : Blk w4 (u.heap.size + 1 + 1 + 1) 26 (stblk exS (exP u.heap.size)) := by rw [hw4, ← s3]; exact Blk.new _ _ _
  have HK := Lib.hid hk
  have HW := Lib.hid (show (((u.alloc (.cells #[.int .i64 1] 3)).alloc (.cells #[.int .i64 1] 3)).alloc (.cells #[.int .i64 1, .int .i64 2, .slice (some ⟨u.heap.size, 0, none⟩) 1 1, .bool false, .string ⟨#[]⟩, .int .i64 2, .int .i64 2, .slice (some ⟨u.heap.size + 1, 0, none⟩) 1 1, .bool false, .string ⟨#[]⟩] 38)).alloc (.cells #[.int .i64 1, .int .i64 3, .int .i64 1, .int .i64 0, .slice none 0 0, .slice none 0 0, .slice (some ⟨u.heap.size + 1 + 1, 0, none⟩) 2 2] 26) = w4 by rw [hw4, hw3, hw2, hw1])
  have hs4 : u.heap.size + 1 + 1 + 1 < w4.heap.size := by omega
  clear hrt hrd hk r1 r2 r3 b1 b12 b23 b34 s1 s2 s3 s4 hw1 hw2 hw3 hw4
  have cells : ∀ w, Below w4.heap.size w4 w → w.cell? ⟨u.heap.size + 1 + 1 + 1, 0, none⟩ = some (.int .i64 1) ∧ w.cell? ⟨u.heap.size + 1 + 1 + 1, 1, none⟩ = some (.int .i64 3) ∧ w.cell? ⟨u.heap.size + 1 + 1 + 1, 2, none⟩ = some (.int .i64 1) ∧ w.cell? ⟨u.heap.size + 1 + 1 + 1, 3, none⟩ = some (.int .i64 0) ∧
      w.cell? ⟨u.heap.size + 1 + 1 + 1, 4, none⟩ = some (.slice none 0 0) ∧ w.cell? ⟨u.heap.size + 1 + 1 + 1, 5, none⟩ = some (.slice none 0 0) ∧ w.cell? ⟨u.heap.size + 1 + 1 + 1, 6, none⟩ = some (.slice (some ⟨u.heap.size + 1 + 1, 0, none⟩) 2 2) := fun w h => stblk_cells (HK.out.below h hs4)
  have HCE := Lib.hid cells
  have k0 : ∀ w, Below w4.heap.size w4 w → Calls Try.prog 22 #[.agg #[.int .i64 1, .int .i64 3, .int .i64 1, .int .i64 0, .slice none 0 0, .slice none 0 0, .slice (some ⟨u.heap.size + 1 + 1, 0, none⟩) 2 2], .int .i64 0] w fun e w' => e = .returned (.bool false) ∧ Below w.heap.size w w' := fun w h => (kept_p exS (exP u.heap.size) 0 w ((HRT.out.below h).more h.size) exS_tok exS_small (by unfold I64; decide)).mono fun e w' hh => ⟨by rw [hh.1, exS_kept0], hh.2⟩
  have k1 : ∀ w, Below w4.heap.size w4 w → Calls Try.prog 22 #[.agg #[.int .i64 1, .int .i64 3, .int .i64 1, .int .i64 0, .slice none 0 0, .slice none 0 0, .slice (some ⟨u.heap.size + 1 + 1, 0, none⟩) 2 2], .int .i64 1] w fun e w' => e = .returned (.bool true) ∧ Below w.heap.size w w' := fun w h => (kept_p exS (exP u.heap.size) 1 w ((HRT.out.below h).more h.size) exS_tok exS_small (by unfold I64; decide)).mono fun e w' hh => ⟨by rw [hh.1, exS_kept1], hh.2⟩
  have k2 : ∀ w, Below w4.heap.size w4 w → Calls Try.prog 14 #[.agg #[.int .i64 1, .int .i64 3, .int .i64 1, .int .i64 0, .slice none 0 0, .slice none 0 0, .slice (some ⟨u.heap.size + 1 + 1, 0, none⟩) 2 2], .int .i64 1] w fun e w' => e = .returned (.int .i64 0) ∧ Below w.heap.size w w' := fun w h => (may_p exS (exP u.heap.size) 1 w ((HRT.out.below h).more h.size) exS_tok exS_small (by unfold I64; decide)).mono fun e w' hh => ⟨by rw [hh.1, exS_may]; rfl, hh.2⟩
  have k3 : ∀ w, Below w4.heap.size w4 w → Calls Try.prog 11 #[.agg #[.int .i64 1, .int .i64 3, .int .i64 1, .int .i64 0, .slice none 0 0, .slice none 0 0, .slice (some ⟨u.heap.size + 1 + 1, 0, none⟩) 2 2], .agg #[.int .i64 1, .int .i64 3, .int .i64 1, .int .i64 0, .slice none 0 0, .slice none 0 0, .slice (some ⟨u.heap.size + 1 + 1, 0, none⟩) 2 2]] w fun e w' => e = .returned (.bool true) ∧ Below w.heap.size w w' := fun w h => (same_p exS exS (exP u.heap.size) (exP u.heap.size) w ((HRT.out.below h).more h.size) ((HRT.out.below h).more h.size) exS_tok exS_tok exS_small exS_small).mono fun e w' hh => ⟨by rw [hh.1, decide_eq_true rfl], hh.2⟩
  have K0 := Lib.hid k0
  have K1 := Lib.hid k1
  have K2 := Lib.hid k2
  have K3 := Lib.hid k3
  clear cells k0 k1 k2 k3
  go_enter Try.func9, Try.ntmps9
  go_upto_region 2 with fail
  rw [HW.out]
  have hc0 : Below w4.heap.size w4 w4 := Below.refl _ _
  obtain ⟨c0, c1, c2, c3, c4, c5, c6⟩ := HCE.out _ hc0
  go_wp2_with fail
  refine (K0.out _ hc0).mono ?_
  rintro e w5 ⟨rfl, hb5⟩
  have hc1 := hc0.trans (hb5.mono hc0.size)
  obtain ⟨c0, c1, c2, c3, c4, c5, c6⟩ := HCE.out _ hc1
  go_wp2_with fail
  refine (K1.out _ hc1).mono ?_
  rintro e w6 ⟨rfl, hb6⟩
  have hc2 := hc1.trans (hb6.mono hc1.size)
  obtain ⟨c0, c1, c2, c3, c4, c5, c6⟩ := HCE.out _ hc2
  go_wp2_with fail
  refine (K2.out _ hc2).mono ?_
  rintro e w7 ⟨rfl, hb7⟩
  have hc3 := hc2.trans (hb7.mono hc2.size)
  obtain ⟨c0, c1, c2, c3, c4, c5, c6⟩ := HCE.out _ hc3
  go_wp2_with fail
  refine (K3.out _ hc3).mono ?_
  rintro e w8 ⟨rfl, hb8⟩
  have hc4 := hc3.trans (hb8.mono hc3.size)
  go_wp2_with fail
  refine (fresh_p w8).mono ?_
  rintro e w9 ⟨q, rfl, _, hb9⟩
  have hc5 := hc4.trans (hb9.mono hc4.size)
  unfold stagg stblk St.fresh
  have hfs := field_st
  go_wp2
  go_ret
  exact ⟨rfl, hb.trans (hc5.mono hb.size)⟩
end Go.Proofs.Ytdkjdiamekfbdaa
