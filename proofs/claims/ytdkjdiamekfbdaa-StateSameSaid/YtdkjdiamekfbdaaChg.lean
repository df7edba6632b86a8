/-
  Memory in which numbers are written over, in blocks of a call's own.
-/
import Derived.Test.YtdkjdiamekfbdaaStCopy
namespace Go.Proofs.Ytdkjdiamekfbdaa
open Go.RowKit
open Rf (Snp)
open St (Ses Opn Sta)

/-- From w to wr numbers have been written over, in blocks from lo up to hi. -/
structure Chg (lo hi : Nat) (w wr : World) : Prop where
  size : wr.heap.size = w.heap.size
  out : ∀ g, g < lo ∨ hi ≤ g → wr.heap[g]? = w.heap[g]?
  cells : ∀ (p : Addr) (v : Value), w.cell? p = some v → wr.cell? p = some v ∨ ((∃ z, v = .int .i64 z) ∧ ∃ z, wr.cell? p = some (.int .i64 z))
  frozen : ∀ p, wr.frozen? p = w.frozen? p
  below : Below lo w wr
theorem Chg.refl (lo hi : Nat) (w : World) : Chg lo hi w w := ⟨rfl, fun _ _ => rfl, fun _ _ h => .inl h, fun _ => rfl, Below.refl _ _⟩
theorem Chg.keep {lo hi : Nat} {w wr : World} (h : Chg lo hi w wr) {p : Addr} {v : Value} (hv : w.cell? p = some v) (hn : ∀ z, v ≠ .int .i64 z) : wr.cell? p = some v := by
  rcases h.cells p v hv with h1 | ⟨⟨z, hz⟩, _⟩
  · exact h1
  · exact absurd hz (hn z)
theorem Chg.int {lo hi : Nat} {w wr : World} (h : Chg lo hi w wr) {p : Addr} {z : Int} (hv : w.cell? p = some (.int .i64 z)) : ∃ z', wr.cell? p = some (.int .i64 z') := by
  rcases h.cells p _ hv with h1 | ⟨_, h1⟩
  · exact ⟨z, h1⟩
  · exact h1
theorem Chg.step {lo hi : Nat} {w wr : World} (h : Chg lo hi w wr) {p : Addr} {z : Int} (hv : wr.cell? p = some (.int .i64 z)) (h1 : lo ≤ p.block) (h2 : p.block < hi) (n : Int) : Chg lo hi w (wr.setCell p (.int .i64 n)) := by
  refine ⟨by rw [← h.size]; simp [World.setCell], fun g hg => ?_, fun a v ha => ?_, fun a => ?_, h.below.setCell h1 _⟩
  · rw [Below.heap_setCell _ _ _ _ (by omega)]
    exact h.out g hg
  · by_cases ha2 : p = a
    · subst ha2
      refine .inr ⟨?_, n, World.cell?_setCell_same _ _ _ hv⟩
      rcases h.cells p v ha with h3 | ⟨h3, _⟩
      · rw [hv] at h3
        cases h3
        exact ⟨z, rfl⟩
      · exact h3
    · rw [World.cell?_setCell_other _ _ _ _ ha2]
      exact h.cells a v ha
  · rw [World.frozen?_setCell]
    exact h.frozen a
theorem Chg.blk {lo hi g : Nat} {w wr : World} {t : TypeId} {cs : Array Value} (h : Chg lo hi w wr) (hb : Blk w g t cs) (hg : g < lo ∨ hi ≤ g) : Blk wr g t cs := (h.out g hg).trans hb
/-- Where a row of the call's own lies, and that it may be written. -/
theorem own_where {w : World} {b n c sz : Nat} {e : TypeId} {ad : Addr} {xs : List Value} (h : w.ownsRow b e sz (.slice (some ad) n c) n xs) : b ≤ ad.block ∧ ad.block < w.heap.size ∧ ∀ k, w.frozen? (ad.add k) = false := by
  rcases h.2 with ⟨hn, _⟩ | ⟨g, cap, cur, hv, hb, hg, _⟩
  · cases hn
  · cases hv
    refine ⟨hb, (Array.getElem?_eq_some_iff.1 hg).1, fun k => ?_⟩
    have hblk : Blk w g e cur := hg
    have : (⟨g, 0, none⟩ : Addr).add k = ⟨g, k, none⟩ := by unfold Addr.add; split <;> simp_all
    rw [this]
    exact hblk.frozen k
theorem frz_spell {w : World} {ad : Addr} {k i : Nat} (h : w.frozen? (ad.add (k + i)) = false) (hi : 0 < i) : w.frozen? ⟨(ad.add k).block, (ad.add k).off + i, none⟩ = false := by
  rw [add_spell' _ _ _ hi]; exact h
end Go.Proofs.Ytdkjdiamekfbdaa
