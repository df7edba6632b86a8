/-
  The walk of the landed forms' fields: which fields a kind's records have, without their numbers.
-/
import Derived.Test.YtkagonijkalicaaMgJ
import Derived.Test.YtkagonijkalicaaMgE
set_option linter.unusedVariables false
set_option linter.unusedSimpArgs false
namespace Go.Proofs.Ytkagonijkalicaa
open Go.RowKit
open Fo (Spc specAll specs inv top)

/-- A field whose number is not told yet. -/
def unnum (s : Spc) : Spc := { s with num := 0 }
def bare (k : Int) : List Spc := (specAll k).map unnum
/-- A row of specs in memory of the call's own. -/
def isspecs (base : Nat) (l : List Spc) : Sp := ⟨fun v w => ∃ (A : Option Addr) (n c : Nat), v = .slice A n c ∧ n ≤ c ∧ c ≤ 9223372036854775807 ∧ l.length = n ∧ w.ownsRow base 93 5 (.slice A n c) n (rowc scells l), by
  rintro v w w' hx ⟨A, n, c, h1, h2, h3, h4, h5⟩
  exact ⟨A, n, c, h1, h2, h3, h4, own_below h5 hx⟩⟩
theorem lit_specs' {wx : World} {base : Nat} {l : List Spc} {n : Nat} {cs : Array Value} (hb : base ≤ wx.heap.size) (hl : l.length = n) (hn : n ≤ 10) (hcs : (rowc scells l).toArray = cs) :
    (isspecs base l).1 (.slice (some ⟨wx.heap.size, 0, none⟩) n n) (wx.alloc (.cells cs 93)) := by
  refine ⟨_, n, n, rfl, Nat.le_refl _, by omega, hl, ?_⟩
  rw [← hcs]
  exact own_lit (by rw [rowc_len scells_len, hl]) (by unfold maxLen; omega) hb

set_option maxHeartbeats 8000000 in
set_option maxRecDepth 100000 in
theorem fields_any (k : Int) (u : World) (_k0 : -9223372036854775808 ≤ k) (_k1 : k ≤ 9223372036854775807) : Calls Try.prog 82 #[.int .i64 k] u (NewSpecs u (bare k)) := by
  obtain ⟨w2, hw2⟩ : ∃ w2 : World, w2 = (u.alloc (.cells #[.int .i64 0, .int .i64 0, .int .i64 1, .bool false, .bool false] 93)).alloc (.cells #[.int .i64 0, .int .i64 2, .int .i64 1, .bool false, .bool false] 93) := ⟨_, rfl⟩
  have hb2 : Below u.heap.size u w2 := by rw [hw2]; exact ((Below.refl _ _).alloc (Nat.le_refl _) _).alloc (by simp) _
  have hs2 : u.heap.size ≤ w2.heap.size := hb2.size
  have hl3 : u.heap.size < w2.heap.size := by rw [hw2]; simp; omega
  have hl4 : u.heap.size + 1 < w2.heap.size := by rw [hw2]; simp
  have HN : Hid (Blk w2 u.heap.size 93 #[.int .i64 0, .int .i64 0, .int .i64 1, .bool false, .bool false]) := Lib.hid (by rw [hw2]; exact (Blk.new _ _ _).alloc _)
  have HB : Hid (Blk w2 (u.heap.size + 1) 93 #[.int .i64 0, .int .i64 2, .int .i64 1, .bool false, .bool false]) := Lib.hid (by rw [hw2]; simpa using Blk.new (u.alloc (.cells #[.int .i64 0, .int .i64 0, .int .i64 1, .bool false, .bool false] 93)) #[.int .i64 0, .int .i64 2, .int .i64 1, .bool false, .bool false] 93)
  have HW2 := Lib.hid hw2
  clear hw2
  by_cases h1 : k = 1
  · have hs : bare k = bare 1 := by rw [h1]
    rw [hs]
    have q1 : (k == 1) = true := by rw [h1]; rfl
    clear hs h1
    go_enter Try.func82, Try.ntmps82
    go_upto_region 5 with fail
    rw [← HW2.out]
    refine wp_region_grew (n := 89) (Say [(10, isv (.agg #[.int .i64 0, .int .i64 0, .int .i64 1, .bool false, .bool false])), (11, isv (.agg #[.int .i64 0, .int .i64 0, .int .i64 1, .bool true, .bool false])), (12, isv (.agg #[.int .i64 0, .int .i64 0, .int .i64 1, .bool false, .bool false])), (13, isv (.agg #[.int .i64 0, .int .i64 0, .int .i64 1, .bool false, .bool false])), (14, isv (.agg #[.int .i64 0, .int .i64 0, .int .i64 1, .bool false, .bool false])), (15, isv (.agg #[.int .i64 0, .int .i64 0, .int .i64 1, .bool false, .bool false])), (16, isv (.agg #[.int .i64 0, .int .i64 0, .int .i64 1, .bool false, .bool false])), (17, isv (.agg #[.int .i64 0, .int .i64 2, .int .i64 1, .bool false, .bool false])), (18, isv (.agg #[.int .i64 0, .int .i64 2, .int .i64 1, .bool false, .bool false])), (19, isv (.agg #[.int .i64 0, .int .i64 2, .int .i64 3, .bool false, .bool false])), (20, isspecs u.heap.size (bare 1)), (2, isspecs u.heap.size (bare 1))]) (by kernel_rfl) (by kernel_rfl) rfl ⟨?_, ?_, ?_, ?_, ?_, ?_, ?_, ?_, ?_, ?_, ?_, ?_, trivial⟩ ?_
    · refine owed_val _ rfl rfl (fun _ => rfl) fun fr w hC hK => ?_
      have k3 : slot fr 3 = .pointer (some ⟨u.heap.size, 0, none⟩) := known_out hK 3 (by kernel_rfl)
      clear hK
      unfold slot at k3
      have x0 := (HN.out.below hC hl3).cell 0
      have x1 := (HN.out.below hC hl3).cell 1
      have x2 := (HN.out.below hC hl3).cell 2
      have x3 := (HN.out.below hC hl3).cell 3
      have x4 := (HN.out.below hC hl3).cell 4
      simp at x0 x1 x2 x3 x4
      go_simp
    · refine owed_plain rfl rfl fun fr w hC hK K hk => ?_
      have k10 : slot fr 10 = .agg #[.int .i64 0, .int .i64 0, .int .i64 1, .bool false, .bool false] := known_in hK 10 (by kernel_rfl)
      clear hK
      unfold slot at k10
      go_simp
      refine (need_any _ _ _ _ _ _).mono ?_
      rintro e w' ⟨rfl, hb⟩
      exact hk _ _ hb rfl
    · refine owed_val _ rfl rfl (fun _ => rfl) fun fr w hC hK => ?_
      have k3 : slot fr 3 = .pointer (some ⟨u.heap.size, 0, none⟩) := known_out hK 3 (by kernel_rfl)
      clear hK
      unfold slot at k3
      have x0 := (HN.out.below hC hl3).cell 0
      have x1 := (HN.out.below hC hl3).cell 1
      have x2 := (HN.out.below hC hl3).cell 2
      have x3 := (HN.out.below hC hl3).cell 3
      have x4 := (HN.out.below hC hl3).cell 4
      simp at x0 x1 x2 x3 x4
      go_simp
    · refine owed_val _ rfl rfl (fun _ => rfl) fun fr w hC hK => ?_
      have k3 : slot fr 3 = .pointer (some ⟨u.heap.size, 0, none⟩) := known_out hK 3 (by kernel_rfl)
      clear hK
      unfold slot at k3
      have x0 := (HN.out.below hC hl3).cell 0
      have x1 := (HN.out.below hC hl3).cell 1
      have x2 := (HN.out.below hC hl3).cell 2
      have x3 := (HN.out.below hC hl3).cell 3
      have x4 := (HN.out.below hC hl3).cell 4
      simp at x0 x1 x2 x3 x4
      go_simp
    · refine owed_val _ rfl rfl (fun _ => rfl) fun fr w hC hK => ?_
      have k3 : slot fr 3 = .pointer (some ⟨u.heap.size, 0, none⟩) := known_out hK 3 (by kernel_rfl)
      clear hK
      unfold slot at k3
      have x0 := (HN.out.below hC hl3).cell 0
      have x1 := (HN.out.below hC hl3).cell 1
      have x2 := (HN.out.below hC hl3).cell 2
      have x3 := (HN.out.below hC hl3).cell 3
      have x4 := (HN.out.below hC hl3).cell 4
      simp at x0 x1 x2 x3 x4
      go_simp
    · refine owed_val _ rfl rfl (fun _ => rfl) fun fr w hC hK => ?_
      have k3 : slot fr 3 = .pointer (some ⟨u.heap.size, 0, none⟩) := known_out hK 3 (by kernel_rfl)
      clear hK
      unfold slot at k3
      have x0 := (HN.out.below hC hl3).cell 0
      have x1 := (HN.out.below hC hl3).cell 1
      have x2 := (HN.out.below hC hl3).cell 2
      have x3 := (HN.out.below hC hl3).cell 3
      have x4 := (HN.out.below hC hl3).cell 4
      simp at x0 x1 x2 x3 x4
      go_simp
    · refine owed_val _ rfl rfl (fun _ => rfl) fun fr w hC hK => ?_
      have k3 : slot fr 3 = .pointer (some ⟨u.heap.size, 0, none⟩) := known_out hK 3 (by kernel_rfl)
      clear hK
      unfold slot at k3
      have x0 := (HN.out.below hC hl3).cell 0
      have x1 := (HN.out.below hC hl3).cell 1
      have x2 := (HN.out.below hC hl3).cell 2
      have x3 := (HN.out.below hC hl3).cell 3
      have x4 := (HN.out.below hC hl3).cell 4
      simp at x0 x1 x2 x3 x4
      go_simp
    · refine owed_val _ rfl rfl (fun _ => rfl) fun fr w hC hK => ?_
      have k4 : slot fr 4 = .pointer (some ⟨u.heap.size + 1, 0, none⟩) := known_out hK 4 (by kernel_rfl)
      clear hK
      unfold slot at k4
      have x0 := (HB.out.below hC hl4).cell 0
      have x1 := (HB.out.below hC hl4).cell 1
      have x2 := (HB.out.below hC hl4).cell 2
      have x3 := (HB.out.below hC hl4).cell 3
      have x4 := (HB.out.below hC hl4).cell 4
      simp at x0 x1 x2 x3 x4
      go_simp
    · refine owed_val _ rfl rfl (fun _ => rfl) fun fr w hC hK => ?_
      have k4 : slot fr 4 = .pointer (some ⟨u.heap.size + 1, 0, none⟩) := known_out hK 4 (by kernel_rfl)
      clear hK
      unfold slot at k4
      have x0 := (HB.out.below hC hl4).cell 0
      have x1 := (HB.out.below hC hl4).cell 1
      have x2 := (HB.out.below hC hl4).cell 2
      have x3 := (HB.out.below hC hl4).cell 3
      have x4 := (HB.out.below hC hl4).cell 4
      simp at x0 x1 x2 x3 x4
      go_simp
    · refine owed_plain rfl rfl fun fr w hC hK K hk => ?_
      have k18 : slot fr 18 = .agg #[.int .i64 0, .int .i64 2, .int .i64 1, .bool false, .bool false] := known_in hK 18 (by kernel_rfl)
      clear hK
      unfold slot at k18
      go_simp
      refine (from_any _ _ _ _ _ _ _).mono ?_
      rintro e w' ⟨rfl, hb⟩
      exact hk _ _ hb rfl
    · refine owed_plain rfl rfl fun fr w hC hK K hk => ?_
      have k11 : slot fr 11 = .agg #[.int .i64 0, .int .i64 0, .int .i64 1, .bool true, .bool false] := known_in hK 11 (by kernel_rfl)
      have k12 : slot fr 12 = .agg #[.int .i64 0, .int .i64 0, .int .i64 1, .bool false, .bool false] := known_in hK 12 (by kernel_rfl)
      have k13 : slot fr 13 = .agg #[.int .i64 0, .int .i64 0, .int .i64 1, .bool false, .bool false] := known_in hK 13 (by kernel_rfl)
      have k14 : slot fr 14 = .agg #[.int .i64 0, .int .i64 0, .int .i64 1, .bool false, .bool false] := known_in hK 14 (by kernel_rfl)
      have k15 : slot fr 15 = .agg #[.int .i64 0, .int .i64 0, .int .i64 1, .bool false, .bool false] := known_in hK 15 (by kernel_rfl)
      have k16 : slot fr 16 = .agg #[.int .i64 0, .int .i64 0, .int .i64 1, .bool false, .bool false] := known_in hK 16 (by kernel_rfl)
      have k17 : slot fr 17 = .agg #[.int .i64 0, .int .i64 2, .int .i64 1, .bool false, .bool false] := known_in hK 17 (by kernel_rfl)
      have k19 : slot fr 19 = .agg #[.int .i64 0, .int .i64 2, .int .i64 3, .bool false, .bool false] := known_in hK 19 (by kernel_rfl)
      clear hK
      unfold slot at k11 k12 k13 k14 k15 k16 k17 k19
      go_simp
      exact hk _ _ ((Below.refl _ _).alloc (Nat.le_refl _) _) (lit_specs' (n := 8) (Nat.le_trans hs2 hC.size) rfl (by omega) rfl)
    · exact owed_move rfl rfl (.inr rfl) fun fr w _ hK => known_in hK 20 (by kernel_rfl)
    intro vs w9 hg9 hgood
    obtain ⟨A, m, c, hv, hmc, hmax, hlen, hown⟩ := hgood.2.2.2.2.2.2.2.2.2.2.2.1
    clear hgood
    simp only [putsOf]
    rw [hv]
    go_simp
    go_wp2
    go_ret
    exact ⟨A, m, c, rfl, hmc, hmax, hlen, hown, hb2.trans (Below.mono hg9 hs2)⟩
  by_cases h2 : k = 2
  · have hs : bare k = bare 2 := by rw [h2]
    rw [hs]
    have q1 : (k == 1) = false := by rw [h2]; rfl
    have q2 : (k == 2) = true := by rw [h2]; rfl
    clear hs h1 h2
    go_enter Try.func82, Try.ntmps82
    go_upto_region 7 with fail
    rw [← HW2.out]
    refine wp_region_grew (n := 89) (Say [(23, isv (.agg #[.int .i64 0, .int .i64 0, .int .i64 1, .bool false, .bool false])), (24, isv (.agg #[.int .i64 0, .int .i64 0, .int .i64 1, .bool true, .bool false])), (25, isv (.agg #[.int .i64 0, .int .i64 0, .int .i64 1, .bool false, .bool false])), (26, isv (.agg #[.int .i64 0, .int .i64 0, .int .i64 1, .bool true, .bool false])), (27, isv (.agg #[.int .i64 0, .int .i64 2, .int .i64 1, .bool false, .bool false])), (28, isv (.agg #[.int .i64 0, .int .i64 2, .int .i64 1, .bool true, .bool false])), (29, isv (.agg #[.int .i64 0, .int .i64 0, .int .i64 1, .bool false, .bool false])), (30, isv (.agg #[.int .i64 0, .int .i64 0, .int .i64 2, .bool false, .bool false])), (31, isv (.agg #[.int .i64 0, .int .i64 2, .int .i64 1, .bool false, .bool false])), (32, isv (.agg #[.int .i64 0, .int .i64 2, .int .i64 3, .bool false, .bool false])), (33, isspecs u.heap.size (bare 2)), (2, isspecs u.heap.size (bare 2))]) (by kernel_rfl) (by kernel_rfl) rfl ⟨?_, ?_, ?_, ?_, ?_, ?_, ?_, ?_, ?_, ?_, ?_, ?_, trivial⟩ ?_
    · refine owed_val _ rfl rfl (fun _ => rfl) fun fr w hC hK => ?_
      have k3 : slot fr 3 = .pointer (some ⟨u.heap.size, 0, none⟩) := known_out hK 3 (by kernel_rfl)
      clear hK
      unfold slot at k3
      have x0 := (HN.out.below hC hl3).cell 0
      have x1 := (HN.out.below hC hl3).cell 1
      have x2 := (HN.out.below hC hl3).cell 2
      have x3 := (HN.out.below hC hl3).cell 3
      have x4 := (HN.out.below hC hl3).cell 4
      simp at x0 x1 x2 x3 x4
      go_simp
    · refine owed_plain rfl rfl fun fr w hC hK K hk => ?_
      have k23 : slot fr 23 = .agg #[.int .i64 0, .int .i64 0, .int .i64 1, .bool false, .bool false] := known_in hK 23 (by kernel_rfl)
      clear hK
      unfold slot at k23
      go_simp
      refine (need_any _ _ _ _ _ _).mono ?_
      rintro e w' ⟨rfl, hb⟩
      exact hk _ _ hb rfl
    · refine owed_val _ rfl rfl (fun _ => rfl) fun fr w hC hK => ?_
      have k3 : slot fr 3 = .pointer (some ⟨u.heap.size, 0, none⟩) := known_out hK 3 (by kernel_rfl)
      clear hK
      unfold slot at k3
      have x0 := (HN.out.below hC hl3).cell 0
      have x1 := (HN.out.below hC hl3).cell 1
      have x2 := (HN.out.below hC hl3).cell 2
      have x3 := (HN.out.below hC hl3).cell 3
      have x4 := (HN.out.below hC hl3).cell 4
      simp at x0 x1 x2 x3 x4
      go_simp
    · refine owed_plain rfl rfl fun fr w hC hK K hk => ?_
      have k25 : slot fr 25 = .agg #[.int .i64 0, .int .i64 0, .int .i64 1, .bool false, .bool false] := known_in hK 25 (by kernel_rfl)
      clear hK
      unfold slot at k25
      go_simp
      refine (need_any _ _ _ _ _ _).mono ?_
      rintro e w' ⟨rfl, hb⟩
      exact hk _ _ hb rfl
    · refine owed_val _ rfl rfl (fun _ => rfl) fun fr w hC hK => ?_
      have k4 : slot fr 4 = .pointer (some ⟨u.heap.size + 1, 0, none⟩) := known_out hK 4 (by kernel_rfl)
      clear hK
      unfold slot at k4
      have x0 := (HB.out.below hC hl4).cell 0
      have x1 := (HB.out.below hC hl4).cell 1
      have x2 := (HB.out.below hC hl4).cell 2
      have x3 := (HB.out.below hC hl4).cell 3
      have x4 := (HB.out.below hC hl4).cell 4
      simp at x0 x1 x2 x3 x4
      go_simp
    · refine owed_plain rfl rfl fun fr w hC hK K hk => ?_
      have k27 : slot fr 27 = .agg #[.int .i64 0, .int .i64 2, .int .i64 1, .bool false, .bool false] := known_in hK 27 (by kernel_rfl)
      clear hK
      unfold slot at k27
      go_simp
      refine (need_any _ _ _ _ _ _).mono ?_
      rintro e w' ⟨rfl, hb⟩
      exact hk _ _ hb rfl
    · refine owed_val _ rfl rfl (fun _ => rfl) fun fr w hC hK => ?_
      have k3 : slot fr 3 = .pointer (some ⟨u.heap.size, 0, none⟩) := known_out hK 3 (by kernel_rfl)
      clear hK
      unfold slot at k3
      have x0 := (HN.out.below hC hl3).cell 0
      have x1 := (HN.out.below hC hl3).cell 1
      have x2 := (HN.out.below hC hl3).cell 2
      have x3 := (HN.out.below hC hl3).cell 3
      have x4 := (HN.out.below hC hl3).cell 4
      simp at x0 x1 x2 x3 x4
      go_simp
    · refine owed_plain rfl rfl fun fr w hC hK K hk => ?_
      have k29 : slot fr 29 = .agg #[.int .i64 0, .int .i64 0, .int .i64 1, .bool false, .bool false] := known_in hK 29 (by kernel_rfl)
      clear hK
      unfold slot at k29
      go_simp
      refine (from_any _ _ _ _ _ _ _).mono ?_
      rintro e w' ⟨rfl, hb⟩
      exact hk _ _ hb rfl
    · refine owed_val _ rfl rfl (fun _ => rfl) fun fr w hC hK => ?_
      have k4 : slot fr 4 = .pointer (some ⟨u.heap.size + 1, 0, none⟩) := known_out hK 4 (by kernel_rfl)
      clear hK
      unfold slot at k4
      have x0 := (HB.out.below hC hl4).cell 0
      have x1 := (HB.out.below hC hl4).cell 1
      have x2 := (HB.out.below hC hl4).cell 2
      have x3 := (HB.out.below hC hl4).cell 3
      have x4 := (HB.out.below hC hl4).cell 4
      simp at x0 x1 x2 x3 x4
      go_simp
    · refine owed_plain rfl rfl fun fr w hC hK K hk => ?_
      have k31 : slot fr 31 = .agg #[.int .i64 0, .int .i64 2, .int .i64 1, .bool false, .bool false] := known_in hK 31 (by kernel_rfl)
      clear hK
      unfold slot at k31
      go_simp
      refine (from_any _ _ _ _ _ _ _).mono ?_
      rintro e w' ⟨rfl, hb⟩
      exact hk _ _ hb rfl
    · refine owed_plain rfl rfl fun fr w hC hK K hk => ?_
      have k24 : slot fr 24 = .agg #[.int .i64 0, .int .i64 0, .int .i64 1, .bool true, .bool false] := known_in hK 24 (by kernel_rfl)
      have k26 : slot fr 26 = .agg #[.int .i64 0, .int .i64 0, .int .i64 1, .bool true, .bool false] := known_in hK 26 (by kernel_rfl)
      have k28 : slot fr 28 = .agg #[.int .i64 0, .int .i64 2, .int .i64 1, .bool true, .bool false] := known_in hK 28 (by kernel_rfl)
      have k30 : slot fr 30 = .agg #[.int .i64 0, .int .i64 0, .int .i64 2, .bool false, .bool false] := known_in hK 30 (by kernel_rfl)
      have k32 : slot fr 32 = .agg #[.int .i64 0, .int .i64 2, .int .i64 3, .bool false, .bool false] := known_in hK 32 (by kernel_rfl)
      clear hK
      unfold slot at k24 k26 k28 k30 k32
      go_simp
      exact hk _ _ ((Below.refl _ _).alloc (Nat.le_refl _) _) (lit_specs' (n := 5) (Nat.le_trans hs2 hC.size) rfl (by omega) rfl)
    · exact owed_move rfl rfl (.inr rfl) fun fr w _ hK => known_in hK 33 (by kernel_rfl)
    intro vs w9 hg9 hgood
    obtain ⟨A, m, c, hv, hmc, hmax, hlen, hown⟩ := hgood.2.2.2.2.2.2.2.2.2.2.2.1
    clear hgood
    simp only [putsOf]
    rw [hv]
    go_simp
    go_wp2
    go_ret
    exact ⟨A, m, c, rfl, hmc, hmax, hlen, hown, hb2.trans (Below.mono hg9 hs2)⟩
  by_cases h3 : k = 3
  · have hs : bare k = bare 3 := by rw [h3]
    rw [hs]
    have q1 : (k == 1) = false := by rw [h3]; rfl
    have q2 : (k == 2) = false := by rw [h3]; rfl
    have q3 : (k == 3) = true := by rw [h3]; rfl
    clear hs h1 h2 h3
    go_enter Try.func82, Try.ntmps82
    go_upto_region 9 with fail
    rw [← HW2.out]
    refine wp_region_grew (n := 89) (Say [(36, isv (.agg #[.int .i64 0, .int .i64 0, .int .i64 1, .bool false, .bool false])), (37, isv (.agg #[.int .i64 0, .int .i64 0, .int .i64 1, .bool true, .bool false])), (38, isv (.agg #[.int .i64 0, .int .i64 0, .int .i64 1, .bool false, .bool false])), (39, isv (.agg #[.int .i64 0, .int .i64 0, .int .i64 1, .bool true, .bool false])), (40, isspecs u.heap.size (bare 3)), (2, isspecs u.heap.size (bare 3))]) (by kernel_rfl) (by kernel_rfl) rfl ⟨?_, ?_, ?_, ?_, ?_, ?_, trivial⟩ ?_
    · refine owed_val _ rfl rfl (fun _ => rfl) fun fr w hC hK => ?_
      have k3 : slot fr 3 = .pointer (some ⟨u.heap.size, 0, none⟩) := known_out hK 3 (by kernel_rfl)
      clear hK
      unfold slot at k3
      have x0 := (HN.out.below hC hl3).cell 0
      have x1 := (HN.out.below hC hl3).cell 1
      have x2 := (HN.out.below hC hl3).cell 2
      have x3 := (HN.out.below hC hl3).cell 3
      have x4 := (HN.out.below hC hl3).cell 4
      simp at x0 x1 x2 x3 x4
      go_simp
    · refine owed_plain rfl rfl fun fr w hC hK K hk => ?_
      have k36 : slot fr 36 = .agg #[.int .i64 0, .int .i64 0, .int .i64 1, .bool false, .bool false] := known_in hK 36 (by kernel_rfl)
      clear hK
      unfold slot at k36
      go_simp
      refine (need_any _ _ _ _ _ _).mono ?_
      rintro e w' ⟨rfl, hb⟩
      exact hk _ _ hb rfl
    · refine owed_val _ rfl rfl (fun _ => rfl) fun fr w hC hK => ?_
      have k3 : slot fr 3 = .pointer (some ⟨u.heap.size, 0, none⟩) := known_out hK 3 (by kernel_rfl)
      clear hK
      unfold slot at k3
      have x0 := (HN.out.below hC hl3).cell 0
      have x1 := (HN.out.below hC hl3).cell 1
      have x2 := (HN.out.below hC hl3).cell 2
      have x3 := (HN.out.below hC hl3).cell 3
      have x4 := (HN.out.below hC hl3).cell 4
      simp at x0 x1 x2 x3 x4
      go_simp
    · refine owed_plain rfl rfl fun fr w hC hK K hk => ?_
      have k38 : slot fr 38 = .agg #[.int .i64 0, .int .i64 0, .int .i64 1, .bool false, .bool false] := known_in hK 38 (by kernel_rfl)
      clear hK
      unfold slot at k38
      go_simp
      refine (need_any _ _ _ _ _ _).mono ?_
      rintro e w' ⟨rfl, hb⟩
      exact hk _ _ hb rfl
    · refine owed_plain rfl rfl fun fr w hC hK K hk => ?_
      have k37 : slot fr 37 = .agg #[.int .i64 0, .int .i64 0, .int .i64 1, .bool true, .bool false] := known_in hK 37 (by kernel_rfl)
      have k39 : slot fr 39 = .agg #[.int .i64 0, .int .i64 0, .int .i64 1, .bool true, .bool false] := known_in hK 39 (by kernel_rfl)
      clear hK
      unfold slot at k37 k39
      go_simp
      exact hk _ _ ((Below.refl _ _).alloc (Nat.le_refl _) _) (lit_specs' (n := 2) (Nat.le_trans hs2 hC.size) rfl (by omega) rfl)
    · exact owed_move rfl rfl (.inr rfl) fun fr w _ hK => known_in hK 40 (by kernel_rfl)
    intro vs w9 hg9 hgood
    obtain ⟨A, m, c, hv, hmc, hmax, hlen, hown⟩ := hgood.2.2.2.2.2.1
    clear hgood
    simp only [putsOf]
    rw [hv]
    go_simp
    go_wp2
    go_ret
    exact ⟨A, m, c, rfl, hmc, hmax, hlen, hown, hb2.trans (Below.mono hg9 hs2)⟩
  by_cases h4 : k = 4
  · have hs : bare k = bare 4 := by rw [h4]
    rw [hs]
    have q1 : (k == 1) = false := by rw [h4]; rfl
    have q2 : (k == 2) = false := by rw [h4]; rfl
    have q3 : (k == 3) = false := by rw [h4]; rfl
    have q4 : (k == 4) = true := by rw [h4]; rfl
    clear hs h1 h2 h3 h4
    go_enter Try.func82, Try.ntmps82
    go_upto_region 11 with fail
    rw [← HW2.out]
    refine wp_region_grew (n := 89) (Say [(43, isv (.agg #[.int .i64 0, .int .i64 0, .int .i64 1, .bool false, .bool false])), (44, isv (.agg #[.int .i64 0, .int .i64 0, .int .i64 1, .bool true, .bool false])), (45, isv (.agg #[.int .i64 0, .int .i64 0, .int .i64 1, .bool false, .bool false])), (46, isv (.agg #[.int .i64 0, .int .i64 0, .int .i64 1, .bool false, .bool false])), (47, isv (.agg #[.int .i64 0, .int .i64 0, .int .i64 1, .bool false, .bool false])), (48, isspecs u.heap.size (bare 4)), (2, isspecs u.heap.size (bare 4))]) (by kernel_rfl) (by kernel_rfl) rfl ⟨?_, ?_, ?_, ?_, ?_, ?_, ?_, trivial⟩ ?_
    · refine owed_val _ rfl rfl (fun _ => rfl) fun fr w hC hK => ?_
      have k3 : slot fr 3 = .pointer (some ⟨u.heap.size, 0, none⟩) := known_out hK 3 (by kernel_rfl)
      clear hK
      unfold slot at k3
      have x0 := (HN.out.below hC hl3).cell 0
      have x1 := (HN.out.below hC hl3).cell 1
      have x2 := (HN.out.below hC hl3).cell 2
      have x3 := (HN.out.below hC hl3).cell 3
      have x4 := (HN.out.below hC hl3).cell 4
      simp at x0 x1 x2 x3 x4
      go_simp
    · refine owed_plain rfl rfl fun fr w hC hK K hk => ?_
      have k43 : slot fr 43 = .agg #[.int .i64 0, .int .i64 0, .int .i64 1, .bool false, .bool false] := known_in hK 43 (by kernel_rfl)
      clear hK
      unfold slot at k43
      go_simp
      refine (need_any _ _ _ _ _ _).mono ?_
      rintro e w' ⟨rfl, hb⟩
      exact hk _ _ hb rfl
    · refine owed_val _ rfl rfl (fun _ => rfl) fun fr w hC hK => ?_
      have k3 : slot fr 3 = .pointer (some ⟨u.heap.size, 0, none⟩) := known_out hK 3 (by kernel_rfl)
      clear hK
      unfold slot at k3
      have x0 := (HN.out.below hC hl3).cell 0
      have x1 := (HN.out.below hC hl3).cell 1
      have x2 := (HN.out.below hC hl3).cell 2
      have x3 := (HN.out.below hC hl3).cell 3
      have x4 := (HN.out.below hC hl3).cell 4
      simp at x0 x1 x2 x3 x4
      go_simp
    · refine owed_val _ rfl rfl (fun _ => rfl) fun fr w hC hK => ?_
      have k3 : slot fr 3 = .pointer (some ⟨u.heap.size, 0, none⟩) := known_out hK 3 (by kernel_rfl)
      clear hK
      unfold slot at k3
      have x0 := (HN.out.below hC hl3).cell 0
      have x1 := (HN.out.below hC hl3).cell 1
      have x2 := (HN.out.below hC hl3).cell 2
      have x3 := (HN.out.below hC hl3).cell 3
      have x4 := (HN.out.below hC hl3).cell 4
      simp at x0 x1 x2 x3 x4
      go_simp
    · refine owed_val _ rfl rfl (fun _ => rfl) fun fr w hC hK => ?_
      have k3 : slot fr 3 = .pointer (some ⟨u.heap.size, 0, none⟩) := known_out hK 3 (by kernel_rfl)
      clear hK
      unfold slot at k3
      have x0 := (HN.out.below hC hl3).cell 0
      have x1 := (HN.out.below hC hl3).cell 1
      have x2 := (HN.out.below hC hl3).cell 2
      have x3 := (HN.out.below hC hl3).cell 3
      have x4 := (HN.out.below hC hl3).cell 4
      simp at x0 x1 x2 x3 x4
      go_simp
    · refine owed_plain rfl rfl fun fr w hC hK K hk => ?_
      have k44 : slot fr 44 = .agg #[.int .i64 0, .int .i64 0, .int .i64 1, .bool true, .bool false] := known_in hK 44 (by kernel_rfl)
      have k45 : slot fr 45 = .agg #[.int .i64 0, .int .i64 0, .int .i64 1, .bool false, .bool false] := known_in hK 45 (by kernel_rfl)
      have k46 : slot fr 46 = .agg #[.int .i64 0, .int .i64 0, .int .i64 1, .bool false, .bool false] := known_in hK 46 (by kernel_rfl)
      have k47 : slot fr 47 = .agg #[.int .i64 0, .int .i64 0, .int .i64 1, .bool false, .bool false] := known_in hK 47 (by kernel_rfl)
      clear hK
      unfold slot at k44 k45 k46 k47
      go_simp
      exact hk _ _ ((Below.refl _ _).alloc (Nat.le_refl _) _) (lit_specs' (n := 4) (Nat.le_trans hs2 hC.size) rfl (by omega) rfl)
    · exact owed_move rfl rfl (.inr rfl) fun fr w _ hK => known_in hK 48 (by kernel_rfl)
    intro vs w9 hg9 hgood
    obtain ⟨A, m, c, hv, hmc, hmax, hlen, hown⟩ := hgood.2.2.2.2.2.2.1
    clear hgood
    simp only [putsOf]
    rw [hv]
    go_simp
    go_wp2
    go_ret
    exact ⟨A, m, c, rfl, hmc, hmax, hlen, hown, hb2.trans (Below.mono hg9 hs2)⟩
  by_cases h5 : k = 5
  · have hs : bare k = bare 5 := by rw [h5]
    rw [hs]
    have q1 : (k == 1) = false := by rw [h5]; rfl
    have q2 : (k == 2) = false := by rw [h5]; rfl
    have q3 : (k == 3) = false := by rw [h5]; rfl
    have q4 : (k == 4) = false := by rw [h5]; rfl
    have q5 : (k == 5) = true := by rw [h5]; rfl
    clear hs h1 h2 h3 h4 h5
    go_enter Try.func82, Try.ntmps82
    go_upto_region 13 with fail
    rw [← HW2.out]
    refine wp_region_grew (n := 89) (Say [(51, isv (.agg #[.int .i64 0, .int .i64 0, .int .i64 1, .bool false, .bool false])), (52, isv (.agg #[.int .i64 0, .int .i64 0, .int .i64 1, .bool true, .bool false])), (53, isv (.agg #[.int .i64 0, .int .i64 0, .int .i64 1, .bool false, .bool false])), (54, isv (.agg #[.int .i64 0, .int .i64 0, .int .i64 1, .bool true, .bool false])), (55, isv (.agg #[.int .i64 0, .int .i64 0, .int .i64 1, .bool false, .bool false])), (56, isv (.agg #[.int .i64 0, .int .i64 2, .int .i64 1, .bool false, .bool false])), (57, isv (.agg #[.int .i64 0, .int .i64 2, .int .i64 1, .bool false, .bool true])), (58, isv (.agg #[.int .i64 0, .int .i64 2, .int .i64 1, .bool false, .bool false])), (59, isv (.agg #[.int .i64 0, .int .i64 2, .int .i64 1, .bool false, .bool true])), (60, isv (.agg #[.int .i64 0, .int .i64 2, .int .i64 1, .bool false, .bool false])), (61, isv (.agg #[.int .i64 0, .int .i64 2, .int .i64 1, .bool false, .bool true])), (62, isv (.agg #[.int .i64 0, .int .i64 0, .int .i64 1, .bool false, .bool false])), (63, isv (.agg #[.int .i64 0, .int .i64 0, .int .i64 3, .bool false, .bool false])), (64, isspecs u.heap.size (bare 5)), (2, isspecs u.heap.size (bare 5))]) (by kernel_rfl) (by kernel_rfl) rfl ⟨?_, ?_, ?_, ?_, ?_, ?_, ?_, ?_, ?_, ?_, ?_, ?_, ?_, ?_, ?_, trivial⟩ ?_
    · refine owed_val _ rfl rfl (fun _ => rfl) fun fr w hC hK => ?_
      have k3 : slot fr 3 = .pointer (some ⟨u.heap.size, 0, none⟩) := known_out hK 3 (by kernel_rfl)
      clear hK
      unfold slot at k3
      have x0 := (HN.out.below hC hl3).cell 0
      have x1 := (HN.out.below hC hl3).cell 1
      have x2 := (HN.out.below hC hl3).cell 2
      have x3 := (HN.out.below hC hl3).cell 3
      have x4 := (HN.out.below hC hl3).cell 4
      simp at x0 x1 x2 x3 x4
      go_simp
    · refine owed_plain rfl rfl fun fr w hC hK K hk => ?_
      have k51 : slot fr 51 = .agg #[.int .i64 0, .int .i64 0, .int .i64 1, .bool false, .bool false] := known_in hK 51 (by kernel_rfl)
      clear hK
      unfold slot at k51
      go_simp
      refine (need_any _ _ _ _ _ _).mono ?_
      rintro e w' ⟨rfl, hb⟩
      exact hk _ _ hb rfl
    · refine owed_val _ rfl rfl (fun _ => rfl) fun fr w hC hK => ?_
      have k3 : slot fr 3 = .pointer (some ⟨u.heap.size, 0, none⟩) := known_out hK 3 (by kernel_rfl)
      clear hK
      unfold slot at k3
      have x0 := (HN.out.below hC hl3).cell 0
      have x1 := (HN.out.below hC hl3).cell 1
      have x2 := (HN.out.below hC hl3).cell 2
      have x3 := (HN.out.below hC hl3).cell 3
      have x4 := (HN.out.below hC hl3).cell 4
      simp at x0 x1 x2 x3 x4
      go_simp
    · refine owed_plain rfl rfl fun fr w hC hK K hk => ?_
      have k53 : slot fr 53 = .agg #[.int .i64 0, .int .i64 0, .int .i64 1, .bool false, .bool false] := known_in hK 53 (by kernel_rfl)
      clear hK
      unfold slot at k53
      go_simp
      refine (need_any _ _ _ _ _ _).mono ?_
      rintro e w' ⟨rfl, hb⟩
      exact hk _ _ hb rfl
    · refine owed_val _ rfl rfl (fun _ => rfl) fun fr w hC hK => ?_
      have k3 : slot fr 3 = .pointer (some ⟨u.heap.size, 0, none⟩) := known_out hK 3 (by kernel_rfl)
      clear hK
      unfold slot at k3
      have x0 := (HN.out.below hC hl3).cell 0
      have x1 := (HN.out.below hC hl3).cell 1
      have x2 := (HN.out.below hC hl3).cell 2
      have x3 := (HN.out.below hC hl3).cell 3
      have x4 := (HN.out.below hC hl3).cell 4
      simp at x0 x1 x2 x3 x4
      go_simp
    · refine owed_val _ rfl rfl (fun _ => rfl) fun fr w hC hK => ?_
      have k4 : slot fr 4 = .pointer (some ⟨u.heap.size + 1, 0, none⟩) := known_out hK 4 (by kernel_rfl)
      clear hK
      unfold slot at k4
      have x0 := (HB.out.below hC hl4).cell 0
      have x1 := (HB.out.below hC hl4).cell 1
      have x2 := (HB.out.below hC hl4).cell 2
      have x3 := (HB.out.below hC hl4).cell 3
      have x4 := (HB.out.below hC hl4).cell 4
      simp at x0 x1 x2 x3 x4
      go_simp
    · refine owed_plain rfl rfl fun fr w hC hK K hk => ?_
      have k56 : slot fr 56 = .agg #[.int .i64 0, .int .i64 2, .int .i64 1, .bool false, .bool false] := known_in hK 56 (by kernel_rfl)
      clear hK
      unfold slot at k56
      go_simp
      refine (many_any _ _ _ _ _ _).mono ?_
      rintro e w' ⟨rfl, hb⟩
      exact hk _ _ hb rfl
    · refine owed_val _ rfl rfl (fun _ => rfl) fun fr w hC hK => ?_
      have k4 : slot fr 4 = .pointer (some ⟨u.heap.size + 1, 0, none⟩) := known_out hK 4 (by kernel_rfl)
      clear hK
      unfold slot at k4
      have x0 := (HB.out.below hC hl4).cell 0
      have x1 := (HB.out.below hC hl4).cell 1
      have x2 := (HB.out.below hC hl4).cell 2
      have x3 := (HB.out.below hC hl4).cell 3
      have x4 := (HB.out.below hC hl4).cell 4
      simp at x0 x1 x2 x3 x4
      go_simp
    · refine owed_plain rfl rfl fun fr w hC hK K hk => ?_
      have k58 : slot fr 58 = .agg #[.int .i64 0, .int .i64 2, .int .i64 1, .bool false, .bool false] := known_in hK 58 (by kernel_rfl)
      clear hK
      unfold slot at k58
      go_simp
      refine (many_any _ _ _ _ _ _).mono ?_
      rintro e w' ⟨rfl, hb⟩
      exact hk _ _ hb rfl
    · refine owed_val _ rfl rfl (fun _ => rfl) fun fr w hC hK => ?_
      have k4 : slot fr 4 = .pointer (some ⟨u.heap.size + 1, 0, none⟩) := known_out hK 4 (by kernel_rfl)
      clear hK
      unfold slot at k4
      have x0 := (HB.out.below hC hl4).cell 0
      have x1 := (HB.out.below hC hl4).cell 1
      have x2 := (HB.out.below hC hl4).cell 2
      have x3 := (HB.out.below hC hl4).cell 3
      have x4 := (HB.out.below hC hl4).cell 4
      simp at x0 x1 x2 x3 x4
      go_simp
    · refine owed_plain rfl rfl fun fr w hC hK K hk => ?_
      have k60 : slot fr 60 = .agg #[.int .i64 0, .int .i64 2, .int .i64 1, .bool false, .bool false] := known_in hK 60 (by kernel_rfl)
      clear hK
      unfold slot at k60
      go_simp
      refine (many_any _ _ _ _ _ _).mono ?_
      rintro e w' ⟨rfl, hb⟩
      exact hk _ _ hb rfl
    · refine owed_val _ rfl rfl (fun _ => rfl) fun fr w hC hK => ?_
      have k3 : slot fr 3 = .pointer (some ⟨u.heap.size, 0, none⟩) := known_out hK 3 (by kernel_rfl)
      clear hK
      unfold slot at k3
      have x0 := (HN.out.below hC hl3).cell 0
      have x1 := (HN.out.below hC hl3).cell 1
      have x2 := (HN.out.below hC hl3).cell 2
      have x3 := (HN.out.below hC hl3).cell 3
      have x4 := (HN.out.below hC hl3).cell 4
      simp at x0 x1 x2 x3 x4
      go_simp
    · refine owed_plain rfl rfl fun fr w hC hK K hk => ?_
      have k62 : slot fr 62 = .agg #[.int .i64 0, .int .i64 0, .int .i64 1, .bool false, .bool false] := known_in hK 62 (by kernel_rfl)
      clear hK
      unfold slot at k62
      go_simp
      refine (from_any _ _ _ _ _ _ _).mono ?_
      rintro e w' ⟨rfl, hb⟩
      exact hk _ _ hb rfl
    · refine owed_plain rfl rfl fun fr w hC hK K hk => ?_
      have k52 : slot fr 52 = .agg #[.int .i64 0, .int .i64 0, .int .i64 1, .bool true, .bool false] := known_in hK 52 (by kernel_rfl)
      have k54 : slot fr 54 = .agg #[.int .i64 0, .int .i64 0, .int .i64 1, .bool true, .bool false] := known_in hK 54 (by kernel_rfl)
      have k55 : slot fr 55 = .agg #[.int .i64 0, .int .i64 0, .int .i64 1, .bool false, .bool false] := known_in hK 55 (by kernel_rfl)
      have k57 : slot fr 57 = .agg #[.int .i64 0, .int .i64 2, .int .i64 1, .bool false, .bool true] := known_in hK 57 (by kernel_rfl)
      have k59 : slot fr 59 = .agg #[.int .i64 0, .int .i64 2, .int .i64 1, .bool false, .bool true] := known_in hK 59 (by kernel_rfl)
      have k61 : slot fr 61 = .agg #[.int .i64 0, .int .i64 2, .int .i64 1, .bool false, .bool true] := known_in hK 61 (by kernel_rfl)
      have k63 : slot fr 63 = .agg #[.int .i64 0, .int .i64 0, .int .i64 3, .bool false, .bool false] := known_in hK 63 (by kernel_rfl)
      clear hK
      unfold slot at k52 k54 k55 k57 k59 k61 k63
      go_simp
      exact hk _ _ ((Below.refl _ _).alloc (Nat.le_refl _) _) (lit_specs' (n := 7) (Nat.le_trans hs2 hC.size) rfl (by omega) rfl)
    · exact owed_move rfl rfl (.inr rfl) fun fr w _ hK => known_in hK 64 (by kernel_rfl)
    intro vs w9 hg9 hgood
    obtain ⟨A, m, c, hv, hmc, hmax, hlen, hown⟩ := hgood.2.2.2.2.2.2.2.2.2.2.2.2.2.2.1
    clear hgood
    simp only [putsOf]
    rw [hv]
    go_simp
    go_wp2
    go_ret
    exact ⟨A, m, c, rfl, hmc, hmax, hlen, hown, hb2.trans (Below.mono hg9 hs2)⟩
  by_cases h6 : k = 6
  · have hs : bare k = bare 6 := by rw [h6]
    rw [hs]
    have q1 : (k == 1) = false := by rw [h6]; rfl
    have q2 : (k == 2) = false := by rw [h6]; rfl
    have q3 : (k == 3) = false := by rw [h6]; rfl
    have q4 : (k == 4) = false := by rw [h6]; rfl
    have q5 : (k == 5) = false := by rw [h6]; rfl
    have q6 : (k == 6) = true := by rw [h6]; rfl
    clear hs h1 h2 h3 h4 h5 h6
    go_enter Try.func82, Try.ntmps82
    go_upto_region 15 with fail
    rw [← HW2.out]
    refine wp_region_grew (n := 89) (Say [(67, isv (.agg #[.int .i64 0, .int .i64 0, .int .i64 1, .bool false, .bool false])), (68, isv (.agg #[.int .i64 0, .int .i64 0, .int .i64 1, .bool true, .bool false])), (69, isv (.agg #[.int .i64 0, .int .i64 0, .int .i64 1, .bool false, .bool false])), (70, isv (.agg #[.int .i64 0, .int .i64 0, .int .i64 1, .bool true, .bool false])), (71, isv (.agg #[.int .i64 0, .int .i64 0, .int .i64 1, .bool false, .bool false])), (72, isv (.agg #[.int .i64 0, .int .i64 0, .int .i64 1, .bool true, .bool false])), (73, isv (.agg #[.int .i64 0, .int .i64 0, .int .i64 1, .bool false, .bool false])), (74, isv (.agg #[.int .i64 0, .int .i64 0, .int .i64 1, .bool true, .bool false])), (75, isv (.agg #[.int .i64 0, .int .i64 0, .int .i64 1, .bool false, .bool false])), (76, isv (.agg #[.int .i64 0, .int .i64 0, .int .i64 1, .bool false, .bool false])), (77, isv (.agg #[.int .i64 0, .int .i64 0, .int .i64 1, .bool false, .bool false])), (78, isv (.agg #[.int .i64 0, .int .i64 0, .int .i64 1, .bool false, .bool false])), (79, isv (.agg #[.int .i64 0, .int .i64 0, .int .i64 1, .bool false, .bool false])), (80, isv (.agg #[.int .i64 0, .int .i64 2, .int .i64 1, .bool false, .bool false])), (81, isv (.agg #[.int .i64 0, .int .i64 2, .int .i64 1, .bool false, .bool true])), (82, isspecs u.heap.size (bare 6)), (2, isspecs u.heap.size (bare 6))]) (by kernel_rfl) (by kernel_rfl) rfl ⟨?_, ?_, ?_, ?_, ?_, ?_, ?_, ?_, ?_, ?_, ?_, ?_, ?_, ?_, ?_, ?_, ?_, trivial⟩ ?_
    · refine owed_val _ rfl rfl (fun _ => rfl) fun fr w hC hK => ?_
      have k3 : slot fr 3 = .pointer (some ⟨u.heap.size, 0, none⟩) := known_out hK 3 (by kernel_rfl)
      clear hK
      unfold slot at k3
      have x0 := (HN.out.below hC hl3).cell 0
      have x1 := (HN.out.below hC hl3).cell 1
      have x2 := (HN.out.below hC hl3).cell 2
      have x3 := (HN.out.below hC hl3).cell 3
      have x4 := (HN.out.below hC hl3).cell 4
      simp at x0 x1 x2 x3 x4
      go_simp
    · refine owed_plain rfl rfl fun fr w hC hK K hk => ?_
      have k67 : slot fr 67 = .agg #[.int .i64 0, .int .i64 0, .int .i64 1, .bool false, .bool false] := known_in hK 67 (by kernel_rfl)
      clear hK
      unfold slot at k67
      go_simp
      refine (need_any _ _ _ _ _ _).mono ?_
      rintro e w' ⟨rfl, hb⟩
      exact hk _ _ hb rfl
    · refine owed_val _ rfl rfl (fun _ => rfl) fun fr w hC hK => ?_
      have k3 : slot fr 3 = .pointer (some ⟨u.heap.size, 0, none⟩) := known_out hK 3 (by kernel_rfl)
      clear hK
      unfold slot at k3
      have x0 := (HN.out.below hC hl3).cell 0
      have x1 := (HN.out.below hC hl3).cell 1
      have x2 := (HN.out.below hC hl3).cell 2
      have x3 := (HN.out.below hC hl3).cell 3
      have x4 := (HN.out.below hC hl3).cell 4
      simp at x0 x1 x2 x3 x4
      go_simp
    · refine owed_plain rfl rfl fun fr w hC hK K hk => ?_
      have k69 : slot fr 69 = .agg #[.int .i64 0, .int .i64 0, .int .i64 1, .bool false, .bool false] := known_in hK 69 (by kernel_rfl)
      clear hK
      unfold slot at k69
      go_simp
      refine (need_any _ _ _ _ _ _).mono ?_
      rintro e w' ⟨rfl, hb⟩
      exact hk _ _ hb rfl
    · refine owed_val _ rfl rfl (fun _ => rfl) fun fr w hC hK => ?_
      have k3 : slot fr 3 = .pointer (some ⟨u.heap.size, 0, none⟩) := known_out hK 3 (by kernel_rfl)
      clear hK
      unfold slot at k3
      have x0 := (HN.out.below hC hl3).cell 0
      have x1 := (HN.out.below hC hl3).cell 1
      have x2 := (HN.out.below hC hl3).cell 2
      have x3 := (HN.out.below hC hl3).cell 3
      have x4 := (HN.out.below hC hl3).cell 4
      simp at x0 x1 x2 x3 x4
      go_simp
    · refine owed_plain rfl rfl fun fr w hC hK K hk => ?_
      have k71 : slot fr 71 = .agg #[.int .i64 0, .int .i64 0, .int .i64 1, .bool false, .bool false] := known_in hK 71 (by kernel_rfl)
      clear hK
      unfold slot at k71
      go_simp
      refine (need_any _ _ _ _ _ _).mono ?_
      rintro e w' ⟨rfl, hb⟩
      exact hk _ _ hb rfl
    · refine owed_val _ rfl rfl (fun _ => rfl) fun fr w hC hK => ?_
      have k3 : slot fr 3 = .pointer (some ⟨u.heap.size, 0, none⟩) := known_out hK 3 (by kernel_rfl)
      clear hK
      unfold slot at k3
      have x0 := (HN.out.below hC hl3).cell 0
      have x1 := (HN.out.below hC hl3).cell 1
      have x2 := (HN.out.below hC hl3).cell 2
      have x3 := (HN.out.below hC hl3).cell 3
      have x4 := (HN.out.below hC hl3).cell 4
      simp at x0 x1 x2 x3 x4
      go_simp
    · refine owed_plain rfl rfl fun fr w hC hK K hk => ?_
      have k73 : slot fr 73 = .agg #[.int .i64 0, .int .i64 0, .int .i64 1, .bool false, .bool false] := known_in hK 73 (by kernel_rfl)
      clear hK
      unfold slot at k73
      go_simp
      refine (need_any _ _ _ _ _ _).mono ?_
      rintro e w' ⟨rfl, hb⟩
      exact hk _ _ hb rfl
    · refine owed_val _ rfl rfl (fun _ => rfl) fun fr w hC hK => ?_
      have k3 : slot fr 3 = .pointer (some ⟨u.heap.size, 0, none⟩) := known_out hK 3 (by kernel_rfl)
      clear hK
      unfold slot at k3
      have x0 := (HN.out.below hC hl3).cell 0
      have x1 := (HN.out.below hC hl3).cell 1
      have x2 := (HN.out.below hC hl3).cell 2
      have x3 := (HN.out.below hC hl3).cell 3
      have x4 := (HN.out.below hC hl3).cell 4
      simp at x0 x1 x2 x3 x4
      go_simp
    · refine owed_val _ rfl rfl (fun _ => rfl) fun fr w hC hK => ?_
      have k3 : slot fr 3 = .pointer (some ⟨u.heap.size, 0, none⟩) := known_out hK 3 (by kernel_rfl)
      clear hK
      unfold slot at k3
      have x0 := (HN.out.below hC hl3).cell 0
      have x1 := (HN.out.below hC hl3).cell 1
      have x2 := (HN.out.below hC hl3).cell 2
      have x3 := (HN.out.below hC hl3).cell 3
      have x4 := (HN.out.below hC hl3).cell 4
      simp at x0 x1 x2 x3 x4
      go_simp
    · refine owed_val _ rfl rfl (fun _ => rfl) fun fr w hC hK => ?_
      have k3 : slot fr 3 = .pointer (some ⟨u.heap.size, 0, none⟩) := known_out hK 3 (by kernel_rfl)
      clear hK
      unfold slot at k3
      have x0 := (HN.out.below hC hl3).cell 0
      have x1 := (HN.out.below hC hl3).cell 1
      have x2 := (HN.out.below hC hl3).cell 2
      have x3 := (HN.out.below hC hl3).cell 3
      have x4 := (HN.out.below hC hl3).cell 4
      simp at x0 x1 x2 x3 x4
      go_simp
    · refine owed_val _ rfl rfl (fun _ => rfl) fun fr w hC hK => ?_
      have k3 : slot fr 3 = .pointer (some ⟨u.heap.size, 0, none⟩) := known_out hK 3 (by kernel_rfl)
      clear hK
      unfold slot at k3
      have x0 := (HN.out.below hC hl3).cell 0
      have x1 := (HN.out.below hC hl3).cell 1
      have x2 := (HN.out.below hC hl3).cell 2
      have x3 := (HN.out.below hC hl3).cell 3
      have x4 := (HN.out.below hC hl3).cell 4
      simp at x0 x1 x2 x3 x4
      go_simp
    · refine owed_val _ rfl rfl (fun _ => rfl) fun fr w hC hK => ?_
      have k3 : slot fr 3 = .pointer (some ⟨u.heap.size, 0, none⟩) := known_out hK 3 (by kernel_rfl)
      clear hK
      unfold slot at k3
      have x0 := (HN.out.below hC hl3).cell 0
      have x1 := (HN.out.below hC hl3).cell 1
      have x2 := (HN.out.below hC hl3).cell 2
      have x3 := (HN.out.below hC hl3).cell 3
      have x4 := (HN.out.below hC hl3).cell 4
      simp at x0 x1 x2 x3 x4
      go_simp
    · refine owed_val _ rfl rfl (fun _ => rfl) fun fr w hC hK => ?_
      have k4 : slot fr 4 = .pointer (some ⟨u.heap.size + 1, 0, none⟩) := known_out hK 4 (by kernel_rfl)
      clear hK
      unfold slot at k4
      have x0 := (HB.out.below hC hl4).cell 0
      have x1 := (HB.out.below hC hl4).cell 1
      have x2 := (HB.out.below hC hl4).cell 2
      have x3 := (HB.out.below hC hl4).cell 3
      have x4 := (HB.out.below hC hl4).cell 4
      simp at x0 x1 x2 x3 x4
      go_simp
    · refine owed_plain rfl rfl fun fr w hC hK K hk => ?_
      have k80 : slot fr 80 = .agg #[.int .i64 0, .int .i64 2, .int .i64 1, .bool false, .bool false] := known_in hK 80 (by kernel_rfl)
      clear hK
      unfold slot at k80
      go_simp
      refine (many_any _ _ _ _ _ _).mono ?_
      rintro e w' ⟨rfl, hb⟩
      exact hk _ _ hb rfl
    · refine owed_plain rfl rfl fun fr w hC hK K hk => ?_
      have k68 : slot fr 68 = .agg #[.int .i64 0, .int .i64 0, .int .i64 1, .bool true, .bool false] := known_in hK 68 (by kernel_rfl)
      have k70 : slot fr 70 = .agg #[.int .i64 0, .int .i64 0, .int .i64 1, .bool true, .bool false] := known_in hK 70 (by kernel_rfl)
      have k72 : slot fr 72 = .agg #[.int .i64 0, .int .i64 0, .int .i64 1, .bool true, .bool false] := known_in hK 72 (by kernel_rfl)
      have k74 : slot fr 74 = .agg #[.int .i64 0, .int .i64 0, .int .i64 1, .bool true, .bool false] := known_in hK 74 (by kernel_rfl)
      have k75 : slot fr 75 = .agg #[.int .i64 0, .int .i64 0, .int .i64 1, .bool false, .bool false] := known_in hK 75 (by kernel_rfl)
      have k76 : slot fr 76 = .agg #[.int .i64 0, .int .i64 0, .int .i64 1, .bool false, .bool false] := known_in hK 76 (by kernel_rfl)
      have k77 : slot fr 77 = .agg #[.int .i64 0, .int .i64 0, .int .i64 1, .bool false, .bool false] := known_in hK 77 (by kernel_rfl)
      have k78 : slot fr 78 = .agg #[.int .i64 0, .int .i64 0, .int .i64 1, .bool false, .bool false] := known_in hK 78 (by kernel_rfl)
      have k79 : slot fr 79 = .agg #[.int .i64 0, .int .i64 0, .int .i64 1, .bool false, .bool false] := known_in hK 79 (by kernel_rfl)
      have k81 : slot fr 81 = .agg #[.int .i64 0, .int .i64 2, .int .i64 1, .bool false, .bool true] := known_in hK 81 (by kernel_rfl)
      clear hK
      unfold slot at k68 k70 k72 k74 k75 k76 k77 k78 k79 k81
      go_simp
      exact hk _ _ ((Below.refl _ _).alloc (Nat.le_refl _) _) (lit_specs' (n := 10) (Nat.le_trans hs2 hC.size) rfl (by omega) rfl)
    · exact owed_move rfl rfl (.inr rfl) fun fr w _ hK => known_in hK 82 (by kernel_rfl)
    intro vs w9 hg9 hgood
    obtain ⟨A, m, c, hv, hmc, hmax, hlen, hown⟩ := hgood.2.2.2.2.2.2.2.2.2.2.2.2.2.2.2.2.1
    clear hgood
    simp only [putsOf]
    rw [hv]
    go_simp
    go_wp2
    go_ret
    exact ⟨A, m, c, rfl, hmc, hmax, hlen, hown, hb2.trans (Below.mono hg9 hs2)⟩
  by_cases h7 : k = 7
  · have hs : bare k = bare 7 := by rw [h7]
    rw [hs]
    have q1 : (k == 1) = false := by rw [h7]; rfl
    have q2 : (k == 2) = false := by rw [h7]; rfl
    have q3 : (k == 3) = false := by rw [h7]; rfl
    have q4 : (k == 4) = false := by rw [h7]; rfl
    have q5 : (k == 5) = false := by rw [h7]; rfl
    have q6 : (k == 6) = false := by rw [h7]; rfl
    have q7 : (k == 7) = true := by rw [h7]; rfl
    clear hs h1 h2 h3 h4 h5 h6 h7
    go_enter Try.func82, Try.ntmps82
    go_upto_region 17 with fail
    rw [← HW2.out]
    refine wp_region_grew (n := 89) (Say [(85, isv (.agg #[.int .i64 0, .int .i64 0, .int .i64 1, .bool false, .bool false])), (86, isv (.agg #[.int .i64 0, .int .i64 0, .int .i64 1, .bool true, .bool false])), (87, isv (.agg #[.int .i64 0, .int .i64 2, .int .i64 1, .bool false, .bool false])), (88, isspecs u.heap.size (bare 7)), (2, isspecs u.heap.size (bare 7))]) (by kernel_rfl) (by kernel_rfl) rfl ⟨?_, ?_, ?_, ?_, ?_, trivial⟩ ?_
    · refine owed_val _ rfl rfl (fun _ => rfl) fun fr w hC hK => ?_
      have k3 : slot fr 3 = .pointer (some ⟨u.heap.size, 0, none⟩) := known_out hK 3 (by kernel_rfl)
      clear hK
      unfold slot at k3
      have x0 := (HN.out.below hC hl3).cell 0
      have x1 := (HN.out.below hC hl3).cell 1
      have x2 := (HN.out.below hC hl3).cell 2
      have x3 := (HN.out.below hC hl3).cell 3
      have x4 := (HN.out.below hC hl3).cell 4
      simp at x0 x1 x2 x3 x4
      go_simp
    · refine owed_plain rfl rfl fun fr w hC hK K hk => ?_
      have k85 : slot fr 85 = .agg #[.int .i64 0, .int .i64 0, .int .i64 1, .bool false, .bool false] := known_in hK 85 (by kernel_rfl)
      clear hK
      unfold slot at k85
      go_simp
      refine (need_any _ _ _ _ _ _).mono ?_
      rintro e w' ⟨rfl, hb⟩
      exact hk _ _ hb rfl
    · refine owed_val _ rfl rfl (fun _ => rfl) fun fr w hC hK => ?_
      have k4 : slot fr 4 = .pointer (some ⟨u.heap.size + 1, 0, none⟩) := known_out hK 4 (by kernel_rfl)
      clear hK
      unfold slot at k4
      have x0 := (HB.out.below hC hl4).cell 0
      have x1 := (HB.out.below hC hl4).cell 1
      have x2 := (HB.out.below hC hl4).cell 2
      have x3 := (HB.out.below hC hl4).cell 3
      have x4 := (HB.out.below hC hl4).cell 4
      simp at x0 x1 x2 x3 x4
      go_simp
    · refine owed_plain rfl rfl fun fr w hC hK K hk => ?_
      have k86 : slot fr 86 = .agg #[.int .i64 0, .int .i64 0, .int .i64 1, .bool true, .bool false] := known_in hK 86 (by kernel_rfl)
      have k87 : slot fr 87 = .agg #[.int .i64 0, .int .i64 2, .int .i64 1, .bool false, .bool false] := known_in hK 87 (by kernel_rfl)
      clear hK
      unfold slot at k86 k87
      go_simp
      exact hk _ _ ((Below.refl _ _).alloc (Nat.le_refl _) _) (lit_specs' (n := 2) (Nat.le_trans hs2 hC.size) rfl (by omega) rfl)
    · exact owed_move rfl rfl (.inr rfl) fun fr w _ hK => known_in hK 88 (by kernel_rfl)
    intro vs w9 hg9 hgood
    obtain ⟨A, m, c, hv, hmc, hmax, hlen, hown⟩ := hgood.2.2.2.2.1
    clear hgood
    simp only [putsOf]
    rw [hv]
    go_simp
    go_wp2
    go_ret
    exact ⟨A, m, c, rfl, hmc, hmax, hlen, hown, hb2.trans (Below.mono hg9 hs2)⟩
  have hs : bare k = [] := by unfold bare specAll; rw [if_neg h1, if_neg h2, if_neg h3, if_neg h4, if_neg h5, if_neg h6, if_neg h7]; rfl
  rw [hs]
  have q1 : (k == 1) = false := by rw [beq_eq_false_iff_ne]; exact h1
  have q2 : (k == 2) = false := by rw [beq_eq_false_iff_ne]; exact h2
  have q3 : (k == 3) = false := by rw [beq_eq_false_iff_ne]; exact h3
  have q4 : (k == 4) = false := by rw [beq_eq_false_iff_ne]; exact h4
  have q5 : (k == 5) = false := by rw [beq_eq_false_iff_ne]; exact h5
  have q6 : (k == 6) = false := by rw [beq_eq_false_iff_ne]; exact h6
  have q7 : (k == 7) = false := by rw [beq_eq_false_iff_ne]; exact h7
  clear hs h1 h2 h3 h4 h5 h6 h7
  go_enter Try.func82, Try.ntmps82
  go_wp2
  rw [← HW2.out]
  go_ret
  exact ⟨none, 0, 0, rfl, Nat.le_refl _, by omega, rfl, World.ownsRow_nil _ _ _ _, hb2⟩
end Go.Proofs.Ytkagonijkalicaa
