/-
  Several rows of fields that grow in one loop, beside two blocks that hold a field each: one field more on one of the rows.
-/
import Derived.Test.YtmcbifdfpaooaaaFoRows
namespace Go.Proofs.Ytmcbifdfpaooaaa
open Go.RowKit
open Tl (Fel)

theorem OwnF.drewN {w : World} {base g : Nat} {v : Value} {F : List Fel} (h : OwnF w base g v F) (m : Nat) : OwnF (w.drewN m) base g v F := by
  obtain ⟨h1, h2, c, T, rfl, h3, h4, h5⟩ := h
  exact ⟨h1, h2, c, T, rfl, h3, h4, h5⟩
theorem OwnF.set {w : World} {base g : Nat} {v : Value} {F : List Fel} {p : Addr} {cs : Array Value} (h : OwnF w base g v F) (hne : g ≠ p.block) (hp : Blk w p.block 39 cs) (u : Value) : OwnF (w.setCell p u) base g v F := by
  obtain ⟨h1, h2, c, T, rfl, h3, h4, h5⟩ := h
  refine ⟨h1, by simpa [World.setCell] using h2, c, T, rfl, ⟨h3.1, ?_⟩, h4, fun k f s hf hs => (h5 k f s hf hs).keep fun gb cs' hb => ?_⟩
  · rcases h3.2 with h | ⟨g', cap', cur, hv, hle, hg, rest⟩
    · exact .inl h
    · refine .inr ⟨g', cap', cur, hv, hle, ?_, rest⟩
      cases hv
      exact (Below.heap_setCell w p u _ hne).trans hg
  · refine hb.far ?_ u
    rintro rfl
    unfold Blk at hb hp
    rw [hb] at hp
    simp at hp

structure Quad (w0 w : World) (base fb : Nat) (f e : Fel) (s : Option Addr × Nat) (R : List (Nat × Value × List Fel)) : Prop where
  own : ∀ r ∈ R, OwnF w base r.1 r.2.1 r.2.2
  ne : R.Pairwise (fun a b => a.1 ≠ b.1)
  off : ∀ r ∈ R, r.1 ≠ fb ∧ r.1 ≠ fb + 1
  full : Blk w fb 39 (fcells f s).toArray
  bare : Blk w (fb + 1) 39 (fcells e (none, 0)).toArray
  place : PlaceOk w f s
  below : Below base w0 w
  fb_ge : base ≤ fb
theorem Quad.alloc {w0 w : World} {base fb : Nat} {f e : Fel} {s : Option Addr × Nat} {R : List (Nat × Value × List Fel)} (h : Quad w0 w base fb f e s R) (o : Obj) : Quad w0 (w.alloc o) base fb f e s R :=
  ⟨fun r hr => (h.own r hr).alloc o, h.ne, h.off, h.full.alloc o, h.bare.alloc o, h.place.keep fun gb cs hb => hb.alloc o, h.below.alloc (by have := h.full.lt; have := h.fb_ge; omega) o, h.fb_ge⟩
theorem Quad.set {w0 w : World} {base fb i : Nat} {f f' e : Fel} {s s' : Option Addr × Nat} {R : List (Nat × Value × List Fel)} {u : Value} (h : Quad w0 w base fb f e s R) (hc : (fcells f s).toArray.setIfInBounds i u = (fcells f' s').toArray) (hp : PlaceOk (w.setCell ⟨fb, i, none⟩ u) f' s') : Quad w0 (w.setCell ⟨fb, i, none⟩ u) base fb f' e s' R :=
  ⟨fun r hr => (h.own r hr).set (h.off r hr).1 h.full u, h.ne, h.off, by rw [← hc]; exact h.full.put i u, h.bare.far (by simp) u, hp, h.below.setCell (by simpa using h.fb_ge) u, h.fb_ge⟩
theorem field_kept {w w' : World} {gb g : Nat} {cs : Array Value} {o : Obj} (hb : Blk w gb 39 cs) (hne : gb ≠ g) (hgrow : (w.alloc o).grownBy w' (some g)) : Blk w' gb 39 cs := by
  have h1 := hb.alloc o
  unfold Blk at h1 ⊢
  rw [hgrow.block gb (by have := hb.lt; simp; omega) (by simpa using hne)]
  exact h1
/-- One field more on one of the rows. -/
theorem Quad.push {w0 w w' : World} {base fb g g' n c cap H : Nat} {f e x : Fel} {s sx : Option Addr × Nat} {A B : List (Nat × Value × List Fel)} {v : Value} {F : List Fel} {T : List (Option Addr × Nat)} {o : Obj} (h : Quad w0 w base fb f e s (A ++ (g, v, F) :: B))
    (hown : w.ownsRow base 39 4 (.slice (some ⟨g, 0, none⟩) n c) n (rcells F T)) (hn : F.length = n) (hT : T.length = F.length) (hp : ∀ (k : Nat) (f : Fel) (s : Option Addr × Nat), F[k]? = some f → T[k]? = some s → PlaceOk w f s) (hx : PlaceOk w x sx)
    (hown' : w'.ownsRow base 39 4 (.slice (some ⟨g', 0, none⟩) (n + 1) cap) (n + 1) (rcells F T ++ fcells x sx)) (hgrow : (w.alloc o).grownBy w' (Value.slice (some ⟨g, 0, none⟩) n c).ownBlock) (hat : (Value.slice (some ⟨g, 0, none⟩) n c).ownBlock = some g' ∨ g' = H) (hH : H = w.heap.size + 1) :
    Quad w0 w' base fb f e s (A ++ (g', .slice (some ⟨g', 0, none⟩) (n + 1) cap, F ++ [x]) :: B) := by
  have hgrow : (w.alloc o).grownBy w' (some g) := hgrow
  obtain ⟨cur, hk⟩ := own_kind hown
  have hmem : (g, v, F) ∈ A ++ (g, v, F) :: B := by simp
  have hb0 := (h.own _ hmem).base_le
  have hg1 := (h.own _ hmem).lt
  have hoff := h.off _ hmem
  have hf := h.full.lt
  have he := h.bare.lt
  simp only at hb0 hg1 hoff
  have hg' : g' = g ∨ g' = w.heap.size + 1 := by
    rcases hat with hh | hh
    · simp [Value.ownBlock] at hh; exact .inl hh.symm
    · exact .inr (hh.trans hH)
  obtain ⟨p1, p2, p3⟩ := List.pairwise_append.1 h.ne
  obtain ⟨p4, p5⟩ := List.pairwise_cons.1 p2
  have hA : ∀ r ∈ A, r.1 ≠ g := fun r hr => p3 r hr (g, v, F) (by simp)
  have hB : ∀ r ∈ B, r.1 ≠ g := fun r hr => (p4 r hr).symm
  have hl : ∀ r ∈ A ++ B, r.1 < w.heap.size := fun r hr => (h.own r (by simp at hr ⊢; rcases hr with hr | hr <;> simp [hr])).lt
  have hA' : ∀ r ∈ A, r.1 ≠ g' := fun r hr => by
    have h1 := hA r hr
    have h2 := hl r (by simp [hr])
    omega
  have hB' : ∀ r ∈ B, g' ≠ r.1 := fun r hr => by
    have h1 := hB r hr
    have h2 := hl r (by simp [hr])
    omega
  refine ⟨fun r hr => ?_, ?_, fun r hr => ?_, field_kept h.full (Ne.symm hoff.1) hgrow, field_kept h.bare (Ne.symm hoff.2) hgrow, h.place.keep (bytes_kept hk hgrow), ?_, h.fb_ge⟩
  · rw [List.mem_append, List.mem_cons] at hr
    rcases hr with hr | rfl | hr
    · exact (h.own r (by simp [hr])).other (hA r hr) hk hgrow
    · exact OwnF.grew hb0 hown hn hT hp hx hown' hgrow
    · exact (h.own r (by simp [hr])).other (hB r hr) hk hgrow
  · refine List.pairwise_append.2 ⟨p1, List.pairwise_cons.2 ⟨fun r hr => hB' r hr, p5⟩, fun a ha b hb => ?_⟩
    rcases List.mem_cons.1 hb with rfl | hb
    · exact hA' a ha
    · exact p3 a ha b (by simp [hb])
  · rw [List.mem_append, List.mem_cons] at hr
    rcases hr with hr | rfl | hr
    · exact h.off r (by simp [hr])
    · simp only; omega
    · exact h.off r (by simp [hr])
  · exact (h.below.alloc (by omega) o).grown hgrow (by simp; omega) (fun k hk => by simp at hk; omega)
end Go.Proofs.Ytmcbifdfpaooaaa
