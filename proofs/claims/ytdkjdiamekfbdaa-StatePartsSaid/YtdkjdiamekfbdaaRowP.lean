/-
  Rows whose elements have several cells, one of them a slice: what they read as.
-/
import Derived.Test.YtdkjdiamekfbdaaRow
namespace Go.Proofs.Ytdkjdiamekfbdaa
open Go.RowKit

section
variable {α : Type} {cf : α → Option Addr × Nat → List Value} {inn : α → List Value} {sz : Nat}
/-- The cells of a row of elements: what the k-th holds lies at the k-th of S. -/
def pcells (cf : α → Option Addr × Nat → List Value) : List α → List (Option Addr × Nat) → List Value
  | f :: l, s :: S => cf f s ++ pcells cf l S
  | _, _ => []
theorem pcells_len (h : ∀ a s, (cf a s).length = sz) : ∀ (l : List α) (S : List (Option Addr × Nat)), S.length = l.length → (pcells cf l S).length = l.length * sz
  | [], [], _ => by simp [pcells]
  | f :: l, s :: S, e => by
    rw [pcells, List.length_append, pcells_len h l S (by simpa using e), h, List.length_cons, Nat.succ_mul]; omega
theorem pcells_get (h : ∀ a s, (cf a s).length = sz) : ∀ (l : List α) (S : List (Option Addr × Nat)) (k i : Nat) (f : α) (s : Option Addr × Nat), l[k]? = some f → S[k]? = some s → i < sz → (pcells cf l S)[k * sz + i]? = (cf f s)[i]?
  | [], _, _, _, _, _, h1, _, _ => by simp at h1
  | _ :: _, [], _, _, _, _, _, h1, _ => by simp at h1
  | g :: l, t :: S, 0, i, f, s, h1, h2, h3 => by
    simp at h1 h2
    subst h1 h2
    rw [pcells, List.getElem?_append_left (by rw [h]; omega)]
    simp
  | g :: l, t :: S, k + 1, i, f, s, h1, h2, h3 => by
    simp at h1 h2
    rw [pcells, List.getElem?_append_right (by rw [h, Nat.succ_mul]; omega), h, ← pcells_get h l S k i f s h1 h2 h3]
    congr 1
    rw [Nat.succ_mul]; omega
theorem pcells_app : ∀ (l m : List α) (S T : List (Option Addr × Nat)), S.length = l.length → pcells cf (l ++ m) (S ++ T) = pcells cf l S ++ pcells cf m T
  | [], _, [], _, _ => by simp [pcells]
  | f :: l, m, s :: S, T, h => by
    simp only [List.cons_append, pcells, List.append_assoc]
    rw [pcells_app l m S T (by simpa using h)]
theorem pcells_one (f : α) (s : Option Addr × Nat) : pcells cf [f] [s] = cf f s := by simp [pcells]
theorem pcells_nil : pcells cf [] [] = [] := rfl
theorem pcells_cell (h : ∀ a s, ∀ u ∈ cf a s, u.oneCell' = true) : ∀ (l : List α) (S : List (Option Addr × Nat)), ∀ u ∈ pcells cf l S, u.oneCell' = true
  | [], _, u, e => by simp [pcells] at e
  | _ :: _, [], u, e => by simp [pcells] at e
  | f :: l, s :: S, u, e => by
    rw [pcells] at e
    rcases List.mem_append.1 e with e | e
    · exact h f s u e
    · exact pcells_cell h l S u e

/-- A slice that reads as the elements l, what they hold lies at S; all of it below block B. -/
def RdP (cf : α → Option Addr × Nat → List Value) (inn : α → List Value) (sz : Nat) (w : World) (B : Nat) (A : Option Addr) (n : Nat) (l : List α) (S : List (Option Addr × Nat)) : Prop :=
  l.length = n ∧ S.length = n ∧ Rd w B sz A n (pcells cf l S) ∧ ∀ (k : Nat) (f : α) (s : Option Addr × Nat), l[k]? = some f → S[k]? = some s → Rd w B 1 s.1 (inn f).length (inn f) ∧ (inn f).length ≤ s.2 ∧ s.2 ≤ 9223372036854775807
variable {w w' : World} {B B' n : Nat} {A : Option Addr} {l : List α} {S : List (Option Addr × Nat)}
theorem RdP.nil (w : World) (B : Nat) (A : Option Addr) : RdP cf inn sz w B A 0 [] [] := ⟨rfl, rfl, Rd.nil _ _ _ _, fun k f s h => by simp at h⟩
theorem RdP.below (h : RdP cf inn sz w B A n l S) (hb : Below B w w') : RdP cf inn sz w' B A n l S := ⟨h.1, h.2.1, h.2.2.1.below hb, fun k f s hf hs => ⟨(h.2.2.2 k f s hf hs).1.below hb, (h.2.2.2 k f s hf hs).2⟩⟩
theorem RdP.more (h : RdP cf inn sz w B A n l S) (hB : B ≤ B') : RdP cf inn sz w B' A n l S := ⟨h.1, h.2.1, h.2.2.1.more hB, fun k f s hf hs => ⟨(h.2.2.2 k f s hf hs).1.more hB, (h.2.2.2 k f s hf hs).2⟩⟩
theorem RdP.alloc (h : RdP cf inn sz w B A n l S) (hB : B ≤ w.heap.size) (o : Obj) : RdP cf inn sz (w.alloc o) B A n l S := ⟨h.1, h.2.1, h.2.2.1.alloc hB o, fun k f s hf hs => ⟨(h.2.2.2 k f s hf hs).1.alloc hB o, (h.2.2.2 k f s hf hs).2⟩⟩
/-- The k-th element: its cells, spelled as k * sz + i, and what it holds. -/
theorem RdP.get (hc : ∀ a s, (cf a s).length = sz) (h : RdP cf inn sz w B A n l S) {k : Nat} (hk : k < n) : ∃ (ad : Addr) (f : α) (s : Option Addr × Nat), A = some ad ∧ ad.block < B ∧ l[k]? = some f ∧ S[k]? = some s ∧
    (∀ i v, (cf f s)[i]? = some v → w.cell? (ad.add (k * sz + i)) = some v) ∧ Rd w B 1 s.1 (inn f).length (inn f) ∧ (inn f).length ≤ s.2 ∧ s.2 ≤ 9223372036854775807 := by
  obtain ⟨h1, h2, ⟨h3, h4⟩, h5⟩ := h
  rcases h4 with h0 | ⟨ad, hA, hb, hcell⟩
  · omega
  obtain ⟨f, hf⟩ : ∃ f, l[k]? = some f := ⟨l[k]'(by omega), by simp⟩
  obtain ⟨s, hs⟩ : ∃ s, S[k]? = some s := ⟨S[k]'(by omega), by simp⟩
  refine ⟨ad, f, s, hA, hb, hf, hs, fun i v hv => hcell _ _ ?_, h5 k f s hf hs⟩
  rw [pcells_get hc l S k i f s hf hs (by have := (List.getElem?_eq_some_iff.1 hv).1; rw [hc] at this; exact this)]
  exact hv
theorem RdP.of_own {base : Nat} {e : TypeId} {v : Value} (h : w.ownsRow base e sz v n (pcells cf l S)) (hl : l.length = n) (hS : S.length = n) (hB : B ≤ w.heap.size)
    (hb : ∀ (k : Nat) (f : α) (s : Option Addr × Nat), l[k]? = some f → S[k]? = some s → Rd w B 1 s.1 (inn f).length (inn f) ∧ (inn f).length ≤ s.2 ∧ s.2 ≤ 9223372036854775807) :
    ∃ (A : Option Addr) (c : Nat), v = .slice A n c ∧ n ≤ c ∧ c ≤ 9223372036854775807 ∧ RdP cf inn sz w w.heap.size A n l S := by
  obtain ⟨A, c, rfl, h1, h2⟩ := slice_of_own h
  exact ⟨A, c, rfl, h1, h2, hl, hS, Rd.of_own h, fun k f s hf hs => ⟨(hb k f s hf hs).1.more hB, (hb k f s hf hs).2⟩⟩
/-- What the elements of a row hold stays so when one more comes. -/
def Inn (inn : α → List Value) (w : World) (B : Nat) (l : List α) (S : List (Option Addr × Nat)) : Prop := S.length = l.length ∧ ∀ (k : Nat) (f : α) (s : Option Addr × Nat), l[k]? = some f → S[k]? = some s → Rd w B 1 s.1 (inn f).length (inn f) ∧ (inn f).length ≤ s.2 ∧ s.2 ≤ 9223372036854775807
theorem Inn.nil (w : World) (B : Nat) : Inn inn w B [] [] := ⟨rfl, fun k f s h => by simp at h⟩
theorem Inn.below (h : Inn inn w B l S) (hb : Below B w w') : Inn inn w' B l S := ⟨h.1, fun k f s hf hs => ⟨(h.2 k f s hf hs).1.below hb, (h.2 k f s hf hs).2⟩⟩
theorem Inn.more (h : Inn inn w B l S) (hb : B ≤ B') : Inn inn w B' l S := ⟨h.1, fun k f s hf hs => ⟨(h.2 k f s hf hs).1.more hb, (h.2 k f s hf hs).2⟩⟩
theorem Inn.app {m : List α} {T : List (Option Addr × Nat)} (h : Inn inn w B l S) (g : Inn inn w B m T) : Inn inn w B (l ++ m) (S ++ T) := by
  refine ⟨by simp [h.1, g.1], fun k f s hf hs => ?_⟩
  by_cases hk : k < l.length
  · rw [List.getElem?_append_left hk] at hf
    rw [List.getElem?_append_left (by rw [h.1]; exact hk)] at hs
    exact h.2 k f s hf hs
  · rw [List.getElem?_append_right (by omega)] at hf
    rw [List.getElem?_append_right (by rw [h.1]; omega), h.1] at hs
    exact g.2 _ f s hf hs
theorem Inn.one {f : α} {s : Option Addr × Nat} (h : Rd w B 1 s.1 (inn f).length (inn f)) (h1 : (inn f).length ≤ s.2) (h2 : s.2 ≤ 9223372036854775807) : Inn inn w B [f] [s] := by
  refine ⟨rfl, fun k f' s' hf hs => ?_⟩
  have hk : k = 0 := by
    have := (List.getElem?_eq_some_iff.1 hf).1
    simp at this
    exact this
  subst hk
  simp at hf hs
  subst hf hs
  exact ⟨h, h1, h2⟩
theorem RdP.inner (h : RdP cf inn sz w B A n l S) : Inn inn w B l S := ⟨by rw [h.1, h.2.1], h.2.2.2⟩
end
/-- A row that was just written out reads as its cells. -/
theorem rd_cells (w : World) (xs : List Value) (t : TypeId) {size n : Nat} (h : xs.length = n * size) : Rd (w.alloc (.cells xs.toArray t)) (w.heap.size + 1) size (some ⟨w.heap.size, 0, none⟩) n xs :=
  ⟨h, .inr ⟨_, rfl, by simp, cells_new w xs t⟩⟩
end Go.Proofs.Ytdkjdiamekfbdaa
