/-
  Several rows of fields in memory of the call's own, grown in one loop: where each lies, and where its fields' bytes lie.
-/
import Derived.Test.YtmcbifdfpaooaaaTlMem
import Derived.Deep.AppendLies
namespace Go.Proofs.Ytmcbifdfpaooaaa
open Go.RowKit
open Tl (Fel)

/-- Where a made field's bytes lie: nowhere, or in a block of bytes of their own. -/
def PlaceOk (w : World) (f : Fel) (s : Option Addr × Nat) : Prop :=
  (f.b = [] ∧ s = (none, 0)) ∨ (∃ (gb : Nat) (cs : Array Value), s = (some ⟨gb, 0, none⟩, f.b.length) ∧ cs.toList = bvs f.b ∧ f.b.length ≤ 1000 ∧ Blk w gb 5 cs)
theorem PlaceOk.keep {w w' : World} {f : Fel} {s : Option Addr × Nat} (h : PlaceOk w f s) (hk : ∀ gb cs, Blk w gb 5 cs → Blk w' gb 5 cs) : PlaceOk w' f s := by
  rcases h with h | ⟨gb, cs, h1, h2, h3, h4⟩
  · exact .inl h
  · exact .inr ⟨gb, cs, h1, h2, h3, hk gb cs h4⟩
theorem PlaceOk.rd {w : World} {f : Fel} {s : Option Addr × Nat} (h : PlaceOk w f s) : Rd w w.heap.size 1 s.1 f.b.length (bvs f.b) ∧ f.b.length ≤ s.2 ∧ s.2 ≤ 9223372036854775807 := by
  rcases h with ⟨h1, rfl⟩ | ⟨gb, cs, rfl, h2, h3, h4⟩
  · rw [h1]; exact ⟨Rd.nil _ _ _ _, by simp, by simp⟩
  · refine ⟨⟨by simp [bvs_len], .inr ⟨_, rfl, h4.lt, fun j u hu => ?_⟩⟩, Nat.le_refl _, by simp only; omega⟩
    have hadd : (⟨gb, 0, none⟩ : Addr).add j = ⟨gb, j, none⟩ := by unfold Addr.add; split <;> simp_all
    rw [hadd, h4.cell, ← h2] at *
    simpa using hu

/-- A row of fields of the call's own, at block g. -/
structure OwnF (w : World) (base g : Nat) (v : Value) (F : List Fel) : Prop where
  base_le : base ≤ g
  lt : g < w.heap.size
  row : ∃ (c : Nat) (T : List (Option Addr × Nat)), v = .slice (some ⟨g, 0, none⟩) F.length c ∧ w.ownsRow base 39 4 (.slice (some ⟨g, 0, none⟩) F.length c) F.length (rcells F T) ∧ T.length = F.length ∧ ∀ (k : Nat) (f : Fel) (s : Option Addr × Nat), F[k]? = some f → T[k]? = some s → PlaceOk w f s
theorem own_kind {w : World} {base g n c : Nat} {xs : List Value} (h : w.ownsRow base 39 4 (.slice (some ⟨g, 0, none⟩) n c) n xs) : ∃ cur, w.heap[g]? = some (.cells cur 39 (0, 0)) := by
  rcases h.2 with ⟨h0, _⟩ | ⟨g', cap', cur, hv, _, hgg, _⟩
  · cases h0
  · cases hv; exact ⟨cur, hgg⟩
/-- What another row's growth leaves of bytes' blocks. -/
theorem bytes_kept {w w' : World} {g : Nat} {cur : Array Value} {o : Obj} (hg : w.heap[g]? = some (.cells cur 39 (0, 0))) (hgrow : (w.alloc o).grownBy w' (some g)) : ∀ gb cs, Blk w gb 5 cs → Blk w' gb 5 cs := by
  intro gb cs h
  have hne : gb ≠ g := by
    rintro rfl
    unfold Blk at h
    rw [hg] at h
    simp at h
  have h1 := h.alloc o
  unfold Blk at h1 ⊢
  rw [hgrow.block gb (by have := h.lt; simp; omega) (by simpa using hne)]
  exact h1
theorem OwnF.other {w w' : World} {base g g2 : Nat} {v : Value} {F : List Fel} {cur : Array Value} {o : Obj} (h : OwnF w base g v F) (hne : g ≠ g2) (hk : w.heap[g2]? = some (.cells cur 39 (0, 0))) (hgrow : (w.alloc o).grownBy w' (some g2)) : OwnF w' base g v F := by
  obtain ⟨h1, h2, c, T, rfl, h3, h4, h5⟩ := h
  have hsz : w.heap.size ≤ w'.heap.size := by have := hgrow.size; simp at this; omega
  exact ⟨h1, by omega, c, T, rfl, (h3.alloc o).kept hgrow (.inr (by simpa [Value.ownBlock] using hne)), h4, fun k f s hf hs => (h5 k f s hf hs).keep (bytes_kept hk hgrow)⟩
/-- A new block leaves a row as it is. -/
theorem OwnF.alloc {w : World} {base g : Nat} {v : Value} {F : List Fel} (h : OwnF w base g v F) (o : Obj) : OwnF (w.alloc o) base g v F := by
  obtain ⟨h1, h2, c, T, rfl, h3, h4, h5⟩ := h
  exact ⟨h1, by simp; omega, c, T, rfl, h3.alloc o, h4, fun k f s hf hs => (h5 k f s hf hs).keep fun gb cs hb => hb.alloc o⟩
/-- The row that grew. -/
theorem OwnF.grew {w w' : World} {base g g' n cap : Nat} {F : List Fel} {f : Fel} {s : Option Addr × Nat} {o : Obj} {c : Nat} {T : List (Option Addr × Nat)} (hb : base ≤ g) (hown : w.ownsRow base 39 4 (.slice (some ⟨g, 0, none⟩) n c) n (rcells F T)) (hn : F.length = n) (hT : T.length = F.length)
    (hp : ∀ (k : Nat) (f : Fel) (s : Option Addr × Nat), F[k]? = some f → T[k]? = some s → PlaceOk w f s) (hs : PlaceOk w f s) (hown' : w'.ownsRow base 39 4 (.slice (some ⟨g', 0, none⟩) (n + 1) cap) (n + 1) (rcells F T ++ fcells f s)) (hgrow : (w.alloc o).grownBy w' (some g)) :
    OwnF w' base g' (.slice (some ⟨g', 0, none⟩) (n + 1) cap) (F ++ [f]) := by
  obtain ⟨cur, hk⟩ := own_kind hown
  have hl := hown'.lt g' (by simp [Value.ownBlock])
  have e : (F ++ [f]).length = n + 1 := by simp [hn]
  refine ⟨hl.1, hl.2, cap, T ++ [s], by rw [e], ?_, by simp [hT], fun k f' s' hf hs' => ?_⟩
  · rw [e, rcells_app _ _ _ _ hT, rcells_one]; exact hown'
  · by_cases hkk : k < F.length
    · rw [List.getElem?_append_left hkk] at hf
      rw [List.getElem?_append_left (by omega)] at hs'
      exact (hp k f' s' hf hs').keep (bytes_kept hk hgrow)
    · have hk2 := (List.getElem?_eq_some_iff.1 hf).1
      rw [List.length_append, List.length_singleton] at hk2
      obtain rfl : k = F.length := by omega
      rw [List.getElem?_append_right (Nat.le_refl _), Nat.sub_self] at hf
      rw [List.getElem?_append_right (by omega), hT, Nat.sub_self] at hs'
      simp at hf hs'
      subst hf hs'
      exact hs.keep (bytes_kept hk hgrow)
theorem OwnF.rdf {w : World} {base g : Nat} {v : Value} {F : List Fel} (h : OwnF w base g v F) : ∃ (c : Nat) (T : List (Option Addr × Nat)), v = .slice (some ⟨g, 0, none⟩) F.length c ∧ F.length ≤ c ∧ c ≤ 9223372036854775807 ∧ RdF w w.heap.size (some ⟨g, 0, none⟩) F.length F T := by
  obtain ⟨h1, h2, c, T, rfl, h3, h4, h5⟩ := h
  have hc := own_cap h3
  exact ⟨c, T, rfl, hc.1, hc.2, rfl, h4, Rd.of_own h3, fun k f s hf hs => (h5 k f s hf hs).rd⟩
end Go.Proofs.Ytmcbifdfpaooaaa
