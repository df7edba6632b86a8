/-
  A row of snapshots of the call's own, the chunks too.
-/
import Derived.Test.YtcbfcjpmoechlaaRfMem
import Derived.Test.YtcbfcjpmoechlaaRow
import Derived.Test.YtcbfcjpmoechlaaOwn
set_option linter.unusedVariables false
set_option linter.unusedSimpArgs false
namespace Go.Proofs.Ytcbfcjpmoechlaa
open Go.RowKit
open Rf (Snp)

structure OwnS (w : World) (b : Nat) (v : Value) (l : List Snp) (T : List (Option Addr × Nat)) : Prop where
  row : w.ownsRow b 36 5 v l.length (pcells sncells l T)
  len : T.length = l.length
  chunks : ∀ (k : Nat) (f : Snp) (t : Option Addr × Nat), l[k]? = some f → T[k]? = some t → w.ownsRow b 3 1 (.slice t.1 f.chunks.length t.2) f.chunks.length (ivs f.chunks)
theorem OwnS.nil (w : World) (b : Nat) : OwnS w b (.slice none 0 0) [] [] := ⟨World.ownsRow_nil _ _ _ _, rfl, fun k f t h => by simp at h⟩
theorem OwnS.below {w w' : World} {b : Nat} {v : Value} {l : List Snp} {T : List (Option Addr × Nat)} (h : OwnS w b v l T) (hb : Below w.heap.size w w') : OwnS w' b v l T :=
  ⟨own_below h.row hb, h.len, fun k f t hf ht => own_below (h.chunks k f t hf ht) hb⟩
theorem OwnS.snaps {w : World} {b : Nat} {v : Value} {l : List Snp} {T : List (Option Addr × Nat)} (h : OwnS w b v l T) : NewSnaps w l v :=
  snaps_of_own h.row rfl ⟨h.len, fun k f t hf ht => by
    have hc := h.chunks k f t hf ht
    have hl : (sninn f).length = f.chunks.length := ivs_len _
    rw [hl]
    exact ⟨Rd.of_own hc, own_cap' hc⟩⟩ (Nat.le_refl _)

/-- One more: its chunks are copied into a row of their own. -/
theorem OwnS.push {wr w1 w4 : World} {b : Nat} {v v' : Value} {l : List Snp} {T : List (Option Addr × Nat)} {x : Snp} {t : Option Addr × Nat} {o : Obj} (h : OwnS wr b v l T) (hb : b ≤ wr.heap.size)
    (b1 : Below (wr.heap.size + 1) (wr.alloc o) w1) (o1 : w1.ownsRow (wr.heap.size + 1) 3 1 (.slice t.1 x.chunks.length t.2) x.chunks.length (ivs x.chunks))
    (o4 : w4.ownsRow b 36 5 v' (l.length + 1) (pcells sncells l T ++ sncells x t)) (g4 : ((w1.setCell ⟨wr.heap.size, 2, none⟩ (.slice t.1 x.chunks.length t.2)).alloc (.cells (sncells x t).toArray 36)).grownBy w4 v.ownBlock) :
    OwnS w4 b v' (l ++ [x]) (T ++ [t]) := by
  obtain ⟨w3, hw3⟩ : ∃ w3 : World, w3 = (w1.setCell ⟨wr.heap.size, 2, none⟩ (.slice t.1 x.chunks.length t.2)).alloc (.cells (sncells x t).toArray 36) := ⟨_, rfl⟩
  have hs1 : wr.heap.size + 1 ≤ w1.heap.size := by have := b1.size; simpa using this
  have hb2 : Below wr.heap.size wr (w1.setCell ⟨wr.heap.size, 2, none⟩ (.slice t.1 x.chunks.length t.2)) := (((Below.refl _ _).alloc (Nat.le_refl _) o).trans (b1.mono (Nat.le_succ _))).setCell (Nat.le_refl _) _
  have hb3 : Below wr.heap.size wr w3 := by rw [hw3]; exact hb2.alloc hb2.size _
  rw [← hw3] at g4
  have hv3 := own_below h.row hb3
  have up : ∀ {n : Nat} {y : Value} {xs : List Value}, w3.ownsRow b 3 1 y n xs → w4.ownsRow b 3 1 y n xs := fun hy => hy.kept g4 (own_apart hy hv3 (by decide))
  have o3 : w3.ownsRow b 3 1 (.slice t.1 x.chunks.length t.2) x.chunks.length (ivs x.chunks) := by
    rw [hw3]
    exact (own_down (own_away o1 (fun e => by have := (o1.lt _ e.symm).1; omega) 2 _) (Nat.le_succ_of_le hb)).alloc _
  refine ⟨?_, by simp [h.len], fun k f u hf hu => ?_⟩
  · rw [pcells_app _ _ _ _ h.len, pcells_one, List.length_append]
    exact o4
  · by_cases hk : k < l.length
    · rw [List.getElem?_append_left hk] at hf
      rw [List.getElem?_append_left (by rw [h.len]; exact hk)] at hu
      exact up (own_below (h.chunks k f u hf hu) hb3)
    · have hk2 := (List.getElem?_eq_some_iff.1 hf).1
      rw [List.length_append, List.length_singleton] at hk2
      obtain rfl : k = l.length := by omega
      rw [List.getElem?_append_right (Nat.le_refl _), Nat.sub_self] at hf
      rw [List.getElem?_append_right (by rw [h.len]; exact Nat.le_refl _), h.len, Nat.sub_self] at hu
      simp at hf hu
      subst hf hu
      exact up o3
end Go.Proofs.Ytcbfcjpmoechlaa
