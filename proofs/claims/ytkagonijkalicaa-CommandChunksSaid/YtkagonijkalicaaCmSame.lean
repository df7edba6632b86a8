/-
  The walks of the reference of layer 5: Same, Project.
-/
import Derived.Test.YtkagonijkalicaaCmMay
set_option linter.unusedVariables false
set_option linter.unusedSimpArgs false
namespace Go.Proofs.Ytkagonijkalicaa
open Go.RowKit
open Cm (Cmd project)

theorem cmd_eq (c d : Cmd) : decide (c = d) = (decide (c.chunks = d.chunks) && ((c.kind == d.kind) && ((c.client == d.client) && ((c.seq == d.seq) && ((c.set == d.set) && ((c.id == d.id) && ((c.n == d.n) && decide (c.text = d.text)))))))) := by
  cases c; cases d
  rw [Bool.eq_iff_iff]
  simp only [Cmd.mk.injEq, decide_eq_true_eq, Bool.and_eq_true, beq_iff_eq]
  constructor
  · rintro ⟨h1, h2, h3, h4, h5, h6, h7, h8⟩; exact ⟨h7, h1, h2, h3, h4, h5, h6, h8⟩
  · rintro ⟨h7, h1, h2, h3, h4, h5, h6, h8⟩; exact ⟨h1, h2, h3, h4, h5, h6, h7, h8⟩

set_option maxHeartbeats 4000000 in
set_option maxRecDepth 100000 in
theorem samec_any (c d : Cmd) (s t : Option Addr × Nat) (w : World) (h : RdC w w.heap.size c s) (h' : RdC w w.heap.size d t) (hb : ∀ b ∈ c.text, b < 256) (hb' : ∀ b ∈ d.text, b < 256) :
    Calls Try.prog 19 #[cagg c s, cagg d t] w fun e w' => e = .returned (.bool (decide (c = d))) ∧ Below w.heap.size w w' := by
  obtain ⟨w0, hw0, hk0, hb0, hs0⟩ := box_cmd w c s 24
  obtain ⟨w1, hw1, hk1, hb1, hs1⟩ := box_cmd w0 d t 24
  have hs01 : w0.heap.size = w.heap.size + 1 := by rw [hw0]; simp
  have hbw1 : Below w.heap.size w w1 := hb0.trans (hb1.mono (Nat.le_of_lt hs0))
  obtain ⟨k0, k1, k2, k3, k4, k5, k6, k7⟩ := cblk_cells (hk0.below hb1 hs0)
  obtain ⟨j0, j1, j2, j3, j4, j5, j6, j7⟩ := cblk_cells hk1
  rw [hs01] at j0 j1 j2 j3 j4 j5 j6 j7
  have hr := (h.below hbw1).more hbw1.size
  have hr' := (h'.below hbw1).more hbw1.size
  have HC := Lib.hid (ints_any s.1 t.1 c.chunks.length d.chunks.length s.2 t.2 c.chunks d.chunks w1 hr.1 hr'.1 hr.2.1 hr.2.2 hr'.2.1 hr'.2.2)
  have HW := Lib.hid (show w1 = (w.alloc (.cells (cblk c s) 24)).alloc (.cells (cblk d t) 24) by rw [hw1, hw0])
  have he := cmd_eq c d
  have q7 := str_beq hb hb'
  obtain ⟨D, hD⟩ : ∃ D, decide (c = d) = D := ⟨_, rfl⟩
  obtain ⟨e0, q0⟩ : ∃ e, (c.kind == d.kind) = e := ⟨_, rfl⟩
  obtain ⟨e1, q1⟩ : ∃ e, (c.client == d.client) = e := ⟨_, rfl⟩
  obtain ⟨e2, q2⟩ : ∃ e, (c.seq == d.seq) = e := ⟨_, rfl⟩
  obtain ⟨e3, q3⟩ : ∃ e, (c.set == d.set) = e := ⟨_, rfl⟩
  obtain ⟨e4, q4⟩ : ∃ e, (c.id == d.id) = e := ⟨_, rfl⟩
  obtain ⟨e5, q5⟩ : ∃ e, (c.n == d.n) = e := ⟨_, rfl⟩
  obtain ⟨e7, q8⟩ : ∃ e, decide (c.text = d.text) = e := ⟨_, rfl⟩
  rw [q0, q1, q2, q3, q4, q5, q8, hD] at he
  rw [q8] at q7
  rw [hD]
  have HE := Lib.hid he
  obtain ⟨I, hI⟩ : ∃ I, decide (c.chunks = d.chunks) = I := ⟨_, rfl⟩
  rw [hI] at HC HE
  clear hw0 hw1 hk0 hk1 hb0 hb1 h h' hr hr' he hD q8 hI hs01
  unfold cagg cblk
  go_enter Try.func19, Try.ntmps19
  go_upto_region 1 with fail
  rw [show ((w.alloc (.cells #[.int .i64 c.kind, .int .i64 c.client, .int .i64 c.seq, .int .i64 c.set, .int .i64 c.id, .int .i64 c.n, .slice s.1 c.chunks.length s.2, .string (strOf c.text)] 24)).alloc (.cells #[.int .i64 d.kind, .int .i64 d.client, .int .i64 d.seq, .int .i64 d.set, .int .i64 d.id, .int .i64 d.n, .slice t.1 d.chunks.length t.2, .string (strOf d.text)] 24)) = w1 from HW.out.symm]
  go_wp2_with fail
  refine HC.out.mono ?_
  rintro e w2 ⟨rfl, hb2⟩
  have hlt0 : w.heap.size < w1.heap.size := Nat.lt_trans hs0 hs1
  have hlt1 : w.heap.size + 1 < w1.heap.size := by have := hs1; have := hs0; omega
  replace k0 := (hb2.cell (p := ⟨w.heap.size, 0, none⟩) hlt0).trans k0
  replace k1 := (hb2.cell (p := ⟨w.heap.size, 1, none⟩) hlt0).trans k1
  replace k2 := (hb2.cell (p := ⟨w.heap.size, 2, none⟩) hlt0).trans k2
  replace k3 := (hb2.cell (p := ⟨w.heap.size, 3, none⟩) hlt0).trans k3
  replace k4 := (hb2.cell (p := ⟨w.heap.size, 4, none⟩) hlt0).trans k4
  replace k5 := (hb2.cell (p := ⟨w.heap.size, 5, none⟩) hlt0).trans k5
  replace k7 := (hb2.cell (p := ⟨w.heap.size, 7, none⟩) hlt0).trans k7
  replace j0 := (hb2.cell (p := ⟨w.heap.size + 1, 0, none⟩) hlt1).trans j0
  replace j1 := (hb2.cell (p := ⟨w.heap.size + 1, 1, none⟩) hlt1).trans j1
  replace j2 := (hb2.cell (p := ⟨w.heap.size + 1, 2, none⟩) hlt1).trans j2
  replace j3 := (hb2.cell (p := ⟨w.heap.size + 1, 3, none⟩) hlt1).trans j3
  replace j4 := (hb2.cell (p := ⟨w.heap.size + 1, 4, none⟩) hlt1).trans j4
  replace j5 := (hb2.cell (p := ⟨w.heap.size + 1, 5, none⟩) hlt1).trans j5
  replace j7 := (hb2.cell (p := ⟨w.heap.size + 1, 7, none⟩) hlt1).trans j7
  have hbw2 : Below w.heap.size w w2 := hbw1.trans (hb2.mono (Nat.le_of_lt hlt0))
  clear k6 j6 HC hb2
  go_wp2
  all_goals go_ret
  all_goals exact ⟨by rw [HE.out]; simp [*], hbw2⟩

set_option maxRecDepth 100000 in
theorem rproject_any (c : Cmd) (s : Option Addr × Nat) (v : Int) (w : World) :
    Calls Try.prog 21 #[cagg c s, .int .i64 v] w fun e w' => e = .returned (cagg (project c v) s) ∧ Below w.heap.size w w' := by
  unfold cagg cblk
  by_cases h3 : v < 3
  · go_enter Try.func21, Try.ntmps21
    go_wp2
    (try simp only [Exit.inBlock, Exit.then])
    have hp : project c v = { c with text := [] } := if_pos h3
    have hb2 : ∀ a b : Obj, Below w.heap.size w ((w.alloc a).alloc b) := fun a b => ((Below.refl _ _).alloc (Nat.le_refl _) _).alloc (by simp) _
    exact bodyPost_ret (results_cell_row rfl _ _ (w.heap.size + 1) 24 (cblk (project c v) s) (0, 0) _ rfl (by rw [hp]; exact heap_alloc2_new w _ _) Try.underlying24 rfl (by rw [hp]; kernel_rfl)) rfl ⟨rfl, hb2 _ _⟩
  · go_enter Try.func21, Try.ntmps21
    go_wp2
    (try simp only [Exit.inBlock, Exit.then])
    have hp : project c v = c := if_neg (by omega)
    have hb2 : ∀ a b : Obj, Below w.heap.size w ((w.alloc a).alloc b) := fun a b => ((Below.refl _ _).alloc (Nat.le_refl _) _).alloc (by simp) _
    exact bodyPost_ret (results_cell_row rfl _ _ (w.heap.size + 1) 24 (cblk (project c v) s) (0, 0) _ rfl (by rw [hp]; exact heap_alloc2_new w _ _) Try.underlying24 rfl (by rw [hp]; kernel_rfl)) rfl ⟨rfl, hb2 _ _⟩
end Go.Proofs.Ytkagonijkalicaa
