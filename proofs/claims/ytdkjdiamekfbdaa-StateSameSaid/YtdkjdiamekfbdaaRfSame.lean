/-
  The walk of the reference's Same: two snapshots are the same.
-/
import Derived.Test.YtdkjdiamekfbdaaRfMem
import Derived.Test.YtdkjdiamekfbdaaInts
namespace Go.Proofs.Ytdkjdiamekfbdaa
open Go.RowKit
open Rf (Snp)

theorem snp_eq (c d : Snp) : decide (c = d) = (decide (c.chunks = d.chunks) && ((c.id == d.id) && ((c.set == d.set) && ((c.held == d.held) && decide (c.tag = d.tag))))) := by
  cases c; cases d
  rw [Bool.eq_iff_iff]
  simp only [Snp.mk.injEq, decide_eq_true_eq, Bool.and_eq_true, beq_iff_eq]
  constructor
  · rintro ⟨h1, h2, h3, h4, h5⟩; exact ⟨h3, h1, h2, h4, h5⟩
  · rintro ⟨h3, h1, h2, h4, h5⟩; exact ⟨h1, h2, h3, h4, h5⟩

/-- A snapshot's chunks lie at s. -/
def RdSn (w : World) (B : Nat) (a : Snp) (s : Option Addr × Nat) : Prop := Rd w B 1 s.1 a.chunks.length (ivs a.chunks) ∧ a.chunks.length ≤ s.2 ∧ s.2 ≤ 9223372036854775807
theorem RdSn.below {w w' : World} {B : Nat} {c : Snp} {s : Option Addr × Nat} (h : RdSn w B c s) (hb : Below B w w') : RdSn w' B c s := ⟨h.1.below hb, h.2⟩
theorem RdSn.more {w : World} {B B' : Nat} {c : Snp} {s : Option Addr × Nat} (h : RdSn w B c s) (hb : B ≤ B') : RdSn w B' c s := ⟨h.1.more hb, h.2⟩
theorem snblk_cells {w : World} {g : Nat} {t : TypeId} {c : Snp} {s : Option Addr × Nat} (h : Blk w g t (sncells c s).toArray) :
    w.cell? ⟨g, 0, none⟩ = some (.int .i64 c.id) ∧ w.cell? ⟨g, 1, none⟩ = some (.int .i64 c.set) ∧ w.cell? ⟨g, 2, none⟩ = some (.slice s.1 c.chunks.length s.2) ∧ w.cell? ⟨g, 3, none⟩ = some (.bool c.held) ∧ w.cell? ⟨g, 4, none⟩ = some (.string (strOf c.tag)) :=
  ⟨(h.cell 0).trans rfl, (h.cell 1).trans rfl, (h.cell 2).trans rfl, (h.cell 3).trans rfl, (h.cell 4).trans rfl⟩
theorem box_snp (w : World) (c : Snp) (s : Option Addr × Nat) (t : TypeId) : ∃ w0 : World, w0 = w.alloc (.cells (sncells c s).toArray t) ∧ Blk w0 w.heap.size t (sncells c s).toArray ∧ Below w.heap.size w w0 ∧ w.heap.size < w0.heap.size :=
  ⟨_, rfl, Blk.new _ _ _, (Below.refl _ _).alloc (Nat.le_refl _) _, by simp⟩

set_option maxHeartbeats 4000000 in
set_option maxRecDepth 100000 in
theorem sames_any (c d : Snp) (s t : Option Addr × Nat) (w : World) (h : RdSn w w.heap.size c s) (h' : RdSn w w.heap.size d t) (hb : ∀ b ∈ c.tag, b < 256) (hb' : ∀ b ∈ d.tag, b < 256) :
    Calls Try.prog 68 #[snagg c s, snagg d t] w fun e w' => e = .returned (.bool (decide (c = d))) ∧ Below w.heap.size w w' := by
  obtain ⟨w0, hw0, hk0, hb0, hs0⟩ := box_snp w c s 38
  obtain ⟨w1, hw1, hk1, hb1, hs1⟩ := box_snp w0 d t 38
  have hs01 : w0.heap.size = w.heap.size + 1 := by rw [hw0]; simp
  have hbw1 : Below w.heap.size w w1 := hb0.trans (hb1.mono (Nat.le_of_lt hs0))
  obtain ⟨k0, k1, k2, k3, k4⟩ := snblk_cells (hk0.below hb1 hs0)
  obtain ⟨j0, j1, j2, j3, j4⟩ := snblk_cells hk1
  rw [hs01] at j0 j1 j2 j3 j4
  have hr := (h.below hbw1).more hbw1.size
  have hr' := (h'.below hbw1).more hbw1.size
  have HC := Lib.hid (ints_any s.1 t.1 c.chunks.length d.chunks.length s.2 t.2 c.chunks d.chunks w1 hr.1 hr'.1 hr.2.1 hr.2.2 hr'.2.1 hr'.2.2)
  have HW := Lib.hid (show w1 = (w.alloc (.cells (sncells c s).toArray 38)).alloc (.cells (sncells d t).toArray 38) by rw [hw1, hw0])
  have he := snp_eq c d
  have q4 := str_beq hb hb'
  obtain ⟨D, hD⟩ : ∃ D, decide (c = d) = D := ⟨_, rfl⟩
  obtain ⟨e0, q0⟩ : ∃ e, (c.id == d.id) = e := ⟨_, rfl⟩
  obtain ⟨e1, q1⟩ : ∃ e, (c.set == d.set) = e := ⟨_, rfl⟩
  obtain ⟨e3, q3⟩ : ∃ e, (c.held == d.held) = e := ⟨_, rfl⟩
  obtain ⟨e4, q5⟩ : ∃ e, decide (c.tag = d.tag) = e := ⟨_, rfl⟩
  rw [q0, q1, q3, q5, hD] at he
  rw [q5] at q4
  rw [hD]
  have HE := Lib.hid he
  obtain ⟨I, hI⟩ : ∃ I, decide (c.chunks = d.chunks) = I := ⟨_, rfl⟩
  rw [hI] at HC HE
  clear hw0 hw1 hk0 hk1 hb0 hb1 h h' hr hr' he hD q5 hI hs01
  unfold snagg sncells
  go_enter Try.func68, Try.ntmps68
  go_upto_region 1 with fail
  rw [show ((w.alloc (.cells #[.int .i64 c.id, .int .i64 c.set, .slice s.1 c.chunks.length s.2, .bool c.held, .string (strOf c.tag)] 38)).alloc (.cells #[.int .i64 d.id, .int .i64 d.set, .slice t.1 d.chunks.length t.2, .bool d.held, .string (strOf d.tag)] 38)) = w1 from HW.out.symm]
  go_wp2_with fail
  refine HC.out.mono ?_
  rintro e w2 ⟨rfl, hb2⟩
  have hlt0 : w.heap.size < w1.heap.size := Nat.lt_trans hs0 hs1
  have hlt1 : w.heap.size + 1 < w1.heap.size := by have := hs1; have := hs0; omega
  replace k0 := (hb2.cell (p := ⟨w.heap.size, 0, none⟩) hlt0).trans k0
  replace k1 := (hb2.cell (p := ⟨w.heap.size, 1, none⟩) hlt0).trans k1
  replace k3 := (hb2.cell (p := ⟨w.heap.size, 3, none⟩) hlt0).trans k3
  replace k4 := (hb2.cell (p := ⟨w.heap.size, 4, none⟩) hlt0).trans k4
  replace j0 := (hb2.cell (p := ⟨w.heap.size + 1, 0, none⟩) hlt1).trans j0
  replace j1 := (hb2.cell (p := ⟨w.heap.size + 1, 1, none⟩) hlt1).trans j1
  replace j3 := (hb2.cell (p := ⟨w.heap.size + 1, 3, none⟩) hlt1).trans j3
  replace j4 := (hb2.cell (p := ⟨w.heap.size + 1, 4, none⟩) hlt1).trans j4
  have hbw2 : Below w.heap.size w w2 := hbw1.trans (hb2.mono (Nat.le_of_lt hlt0))
  clear k2 j2 HC hb2
  go_wp2
  all_goals go_ret
  all_goals exact ⟨by rw [HE.out]; simp [*], hbw2⟩
end Go.Proofs.Ytdkjdiamekfbdaa
