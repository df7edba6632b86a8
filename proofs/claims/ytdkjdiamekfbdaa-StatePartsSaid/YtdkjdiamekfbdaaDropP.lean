/-
  A row of elements of several cells, from some element on.
-/
import Derived.Test.YtdkjdiamekfbdaaRowP
namespace Go.Proofs.Ytdkjdiamekfbdaa
open Go.RowKit

theorem pcells_drop {α : Type} {cf : α → Option Addr × Nat → List Value} {sz : Nat} (h : ∀ a s, (cf a s).length = sz) : ∀ (l : List α) (S : List (Option Addr × Nat)) (m : Nat), S.length = l.length → pcells cf (l.drop m) (S.drop m) = (pcells cf l S).drop (m * sz)
  | [], [], m, _ => by simp [pcells]
  | a :: l, s :: S, 0, _ => by simp
  | a :: l, s :: S, m + 1, e => by
    have e1 : (cf a s).drop ((m + 1) * sz) = [] := List.drop_of_length_le (by rw [h, Nat.succ_mul]; omega)
    rw [List.drop_succ_cons, List.drop_succ_cons, pcells, pcells_drop h l S m (by simpa using e), List.drop_append, h, e1, List.nil_append, Nat.succ_mul, Nat.add_sub_cancel]
theorem RdP.from_ {α : Type} {cf : α → Option Addr × Nat → List Value} {inn : α → List Value} {sz : Nat} (hc : ∀ a s, (cf a s).length = sz) {w : World} {B n k c : Nat} {A : Option Addr} {l : List α} {S : List (Option Addr × Nat)} (h : RdP cf inn sz w B A n l S) (hk : k ≤ n) (hn : n ≤ c) :
    RdP cf inn sz w B (cutAt A c sz k) (n - k) (l.drop k) (S.drop k) := by
  obtain ⟨h1, h2, h3, h4⟩ := h
  refine ⟨by rw [List.length_drop, h1], by rw [List.length_drop, h2], ?_, fun j f s hf hs => ?_⟩
  · rw [pcells_drop hc l S k (by rw [h1, h2])]
    exact h3.from_ hk hn
  · rw [List.getElem?_drop] at hf hs
    exact h4 _ f s hf hs
end Go.Proofs.Ytdkjdiamekfbdaa
