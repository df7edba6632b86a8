/-
  Rows without an element: two parts one behind the other in memory of the call's own; a catalogue without some of its rows, or with one snapshot twice, as May takes it.
-/
import Derived.Test.YtdkjdiamekfbdaaStLaw
import Derived.Test.YtdkjdiamekfbdaaStPartsP
import Derived.Test.YtdkjdiamekfbdaaDropP
namespace Go.Proofs.Ytdkjdiamekfbdaa
open Go.RowKit
open Rf (Snp)
open St (Ses Opn Sta)

/-- What lies below block lo, and what had been laid from block hi on, stays. -/
structure Sm (lo hi : Nat) (w w' : World) : Prop where
  below : Below lo w w'
  keep : ∀ g, hi ≤ g → g < w.heap.size → w'.heap[g]? = w.heap[g]?
  size : w.heap.size ≤ w'.heap.size
theorem Sm.refl (lo hi : Nat) (w : World) : Sm lo hi w w := ⟨Below.refl _ _, fun _ _ _ => rfl, Nat.le_refl _⟩
theorem Sm.of_below {lo hi : Nat} {w w' : World} (h : Below w.heap.size w w') (hl : lo ≤ w.heap.size) : Sm lo hi w w' := ⟨h.mono hl, fun g _ hg => h.block g hg, h.size⟩
theorem Sm.trans {lo hi : Nat} {w w' w'' : World} (h : Sm lo hi w w') (h' : Sm lo hi w' w'') : Sm lo hi w w'' :=
  ⟨h.below.trans h'.below, fun g h1 h2 => (h'.keep g h1 (Nat.lt_of_lt_of_le h2 h.size)).trans (h.keep g h1 h2), Nat.le_trans h.size h'.size⟩
theorem Sm.put {lo hi : Nat} {w w' : World} (h : Sm lo hi w w') {g : Nat} (h1 : lo ≤ g) (h2 : g < hi) (i : Nat) (v : Value) : Sm lo hi w (w'.setCell ⟨g, i, none⟩ v) :=
  ⟨h.below.setCell h1 _, fun k h3 h4 => by rw [Below.heap_setCell _ _ _ _ (by show k ≠ g; omega)]; exact h.keep k h3 h4, by simpa [World.setCell] using h.size⟩
section
variable {α : Type} {cf : α → List Value} {sz : Nat} {e : TypeId}
/-- A row below block lo, or of the call's own from block hi on. -/
def RowAt (cf : α → List Value) (sz : Nat) (e : TypeId) (lo hi : Nat) (w : World) (A : Option Addr) (m c : Nat) (l : List α) : Prop :=
  (RdR cf sz w lo A m l ∧ m ≤ c ∧ c ≤ 9223372036854775807) ∨ (w.ownsRow hi e sz (.slice A m c) m (rowc cf l) ∧ l.length = m)
theorem RowAt.sm {lo hi m c : Nat} {w w' : World} {A : Option Addr} {l : List α} (h : RowAt cf sz e lo hi w A m c l) (hs : Sm lo hi w w') : RowAt cf sz e lo hi w' A m c l := by
  rcases h with ⟨h1, h2⟩ | ⟨h1, h2⟩
  · exact .inl ⟨h1.below hs.below, h2⟩
  · exact .inr ⟨own_up h1 hs.keep, h2⟩
theorem RowAt.rd {lo hi m c : Nat} {w : World} {A : Option Addr} {l : List α} (h : RowAt cf sz e lo hi w A m c l) (hl : lo ≤ w.heap.size) : RdR cf sz w w.heap.size A m l ∧ m ≤ c ∧ c ≤ 9223372036854775807 := by
  rcases h with ⟨h1, h2⟩ | ⟨h1, h2⟩
  · exact ⟨h1.more hl, h2⟩
  · exact ⟨⟨h2, Rd.of_own h1⟩, own_cap' h1⟩
theorem rowc_drop (h : ∀ a, (cf a).length = sz) : ∀ (l : List α) (m : Nat), rowc cf (l.drop m) = (rowc cf l).drop (m * sz)
  | [], m => by simp [rowc]
  | a :: l, 0 => by simp
  | a :: l, m + 1 => by
    have e1 : (cf a).drop ((m + 1) * sz) = [] := List.drop_of_length_le (by rw [h, Nat.succ_mul]; omega)
    rw [List.drop_succ_cons, rowc_cons, rowc_drop h l m, List.drop_append, h, e1, List.nil_append, Nat.succ_mul, Nat.add_sub_cancel]
theorem rowc_less (h : ∀ a, (cf a).length = sz) (l : List α) (i : Nat) : rowc cf (less1 l i) = (rowc cf l).take (i * sz) ++ (rowc cf l).drop ((i + 1) * sz) := by
  unfold less1
  rw [rowc_app, rowc_take h, rowc_drop h]
end
theorem pcells_take {α : Type} {cf : α → Option Addr × Nat → List Value} {sz : Nat} (h : ∀ a s, (cf a s).length = sz) : ∀ (l : List α) (S : List (Option Addr × Nat)) (m : Nat), S.length = l.length → pcells cf (l.take m) (S.take m) = (pcells cf l S).take (m * sz)
  | [], [], m, _ => by simp [pcells]
  | a :: l, s :: S, 0, _ => by simp [pcells]
  | a :: l, s :: S, m + 1, e => by
    have e1 : (cf a s).take ((m + 1) * sz) = cf a s := List.take_of_length_le (by rw [h, Nat.succ_mul]; omega)
    rw [List.take_succ_cons, List.take_succ_cons, pcells, pcells, pcells_take h l S m (by simpa using e), List.take_append, h, e1, Nat.succ_mul, Nat.add_sub_cancel]
theorem pcells_less {l : List Snp} {S : List (Option Addr × Nat)} (h : S.length = l.length) (i : Nat) : pcells sncells (less1 l i) (less1 S i) = (pcells sncells l S).take (i * 5) ++ (pcells sncells l S).drop ((i + 1) * 5) := by
  unfold less1
  rw [pcells_app _ _ _ _ (by rw [List.length_take, List.length_take, h]), pcells_take sn_len _ _ _ h, pcells_drop sn_len _ _ _ h]
/-- Snapshots below block lo, or a row of the call's own from block hi on, what they hold below block lo. -/
def RowAtS (lo hi : Nat) (w : World) (A : Option Addr) (m c : Nat) (l : List Snp) (S : List (Option Addr × Nat)) : Prop :=
  (RdS w lo A m l S ∧ m ≤ c ∧ c ≤ 9223372036854775807) ∨ (w.ownsRow hi 38 5 (.slice A m c) m (pcells sncells l S) ∧ l.length = m ∧ S.length = m ∧ InnS w lo l S)
theorem RowAtS.sm {lo hi m c : Nat} {w w' : World} {A : Option Addr} {l : List Snp} {S : List (Option Addr × Nat)} (h : RowAtS lo hi w A m c l S) (hs : Sm lo hi w w') : RowAtS lo hi w' A m c l S := by
  rcases h with ⟨h1, h2⟩ | ⟨h1, h2, h3, h4⟩
  · exact .inl ⟨h1.below hs.below, h2⟩
  · exact .inr ⟨own_up h1 hs.keep, h2, h3, h4.below hs.below⟩
theorem RowAtS.rd {lo hi m c : Nat} {w : World} {A : Option Addr} {l : List Snp} {S : List (Option Addr × Nat)} (h : RowAtS lo hi w A m c l S) (hl : lo ≤ w.heap.size) : RdS w w.heap.size A m l S ∧ m ≤ c ∧ c ≤ 9223372036854775807 := by
  rcases h with ⟨h1, h2⟩ | ⟨h1, h2, h3, h4⟩
  · exact ⟨h1.more hl, h2⟩
  · obtain ⟨A', c', e1, e2, e3, e4⟩ := RdP.of_own (inn := sninn) h1 h2 h3 hl h4.2
    cases e1
    exact ⟨e4, e2, e3⟩
theorem inn_sub {w : World} {B n : Nat} {A : Option Addr} {l : List Snp} {S : List (Option Addr × Nat)} (h : RdS w B A n l S) (i : Nat) : InnS w B (less1 l i) (less1 S i) := by
  have hin := h.inner
  refine ⟨by unfold less1; simp [h.1, h.2.1], fun k f s hf hs => ?_⟩
  unfold less1 at hf hs
  have hl : (l.take i).length = (S.take i).length := by rw [List.length_take, List.length_take, h.1, h.2.1]
  by_cases hk : k < (l.take i).length
  · rw [List.getElem?_append_left hk] at hf
    rw [List.getElem?_append_left (by omega)] at hs
    rw [List.length_take] at hk
    rw [List.getElem?_take, if_pos (by omega)] at hf hs
    exact hin.2 k f s hf hs
  · rw [List.getElem?_append_right (by omega)] at hf
    rw [List.getElem?_append_right (by omega), ← hl] at hs
    rw [List.getElem?_drop] at hf hs
    exact hin.2 _ f s hf hs


theorem tok_sess {s : Sta} {l : List Ses} (h : Tok s) (hl : l.Sublist s.sess) : Tok { s with sess := l } := ⟨h.v, h.x, h.k, h.q, fun a ha => h.sess a (hl.subset ha), h.opens, h.snaps⟩
theorem tok_opens {s : Sta} {l : List Opn} (h : Tok s) (hl : l.Sublist s.opens) : Tok { s with opens := l } := ⟨h.v, h.x, h.k, h.q, h.sess, fun a ha => h.opens a (hl.subset ha), h.snaps⟩
theorem tok_snaps {s : Sta} {l : List Snp} (h : Tok s) (hl : l.Sublist s.snaps) : Tok { s with snaps := l } := ⟨h.v, h.x, h.k, h.q, h.sess, h.opens, fun a ha => h.snaps a (hl.subset ha)⟩
theorem tok_twice {s : Sta} {x : Snp} (h : Tok s) (hx : x ∈ s.snaps) : Tok { s with snaps := s.snaps ++ [x] } :=
  ⟨h.v, h.x, h.k, h.q, h.sess, h.opens, fun a ha => (by
    rcases List.mem_append.1 ha with h1 | h1
    · exact h.snaps a h1
    · obtain rfl : a = x := by simpa using h1
      exact h.snaps a hx)⟩
theorem small_sess {s : Sta} {l : List Ses} (h : Small s) (hl : l.Sublist s.sess) : Small { s with sess := l } := ⟨Nat.le_trans hl.length_le h.k1, h.k2, h.k3, h.k4⟩
theorem small_opens {s : Sta} {l : List Opn} (h : Small s) (hl : l.Sublist s.opens) : Small { s with opens := l } := ⟨h.k1, Nat.le_trans hl.length_le h.k2, h.k3, h.k4⟩
theorem small_snaps {s : Sta} {l : List Snp} (h : Small s) (hl : l.Sublist s.snaps) : Small { s with snaps := l } := ⟨h.k1, h.k2, Nat.le_trans hl.length_le h.k3, fun a ha => h.k4 a (hl.subset ha)⟩
theorem small_twice {s : Sta} {x : Snp} (h : Small s) (hl : s.snaps.length ≤ 20) (hx : x ∈ s.snaps) : Small { s with snaps := s.snaps ++ [x] } :=
  ⟨h.k1, h.k2, by show (s.snaps ++ [x]).length ≤ 100; rw [List.length_append]; simp; omega, fun a ha => (by
    rcases List.mem_append.1 ha with h1 | h1
    · exact h.k4 a h1
    · obtain rfl : a = x := by simpa using h1
      exact h.k4 a hx)⟩
section
variable {w w9 : World} {lo hi : Nat} {s : Sta} {p : Pls} {A : Option Addr} {m c : Nat}
theorem rdt_sess {l : List Ses} (h : RdT w9 lo s p) (hb : Below lo w9 w) (hlo : lo ≤ w.heap.size) (hr : RowAt secells 4 42 lo hi w A m c l) : RdT w w.heap.size { s with sess := l } { p with a1 := A, n1 := m, c1 := c } := by
  have h1 := (h.below hb).more hlo
  obtain ⟨h2, h3⟩ := hr.rd hlo
  exact ⟨h2, h1.opens, h1.snaps, h3, h1.k2, h1.k3⟩
theorem rdt_opens {l : List Opn} (h : RdT w9 lo s p) (hb : Below lo w9 w) (hlo : lo ≤ w.heap.size) (hr : RowAt opcells 2 44 lo hi w A m c l) : RdT w w.heap.size { s with opens := l } { p with a2 := A, n2 := m, c2 := c } := by
  have h1 := (h.below hb).more hlo
  obtain ⟨h2, h3⟩ := hr.rd hlo
  exact ⟨h1.sess, h2, h1.snaps, h1.k1, h3, h1.k3⟩
theorem rdt_snaps {l : List Snp} {S : List (Option Addr × Nat)} (h : RdT w9 lo s p) (hb : Below lo w9 w) (hlo : lo ≤ w.heap.size) (hr : RowAtS lo hi w A m c l S) : RdT w w.heap.size { s with snaps := l } { p with a3 := A, n3 := m, c3 := c, S := S } := by
  have h1 := (h.below hb).more hlo
  obtain ⟨h2, h3⟩ := hr.rd hlo
  exact ⟨h1.sess, h1.opens, h2, h1.k1, h1.k2, h3⟩
/-- The row with one snapshot twice. -/
theorem row_twice {n : Nat} {l : List Snp} {S : List (Option Addr × Nat)} {x : Snp} {sp : Option Addr × Nat} {A0 : Option Addr} {i : Nat} (h : RdS w lo A0 n l S) (hx : l[i]? = some x) (hsp : S[i]? = some sp)
    (ho : w.ownsRow hi 38 5 (.slice A (n + 1) c) (n + 1) (pcells sncells l S ++ sncells x sp)) : RowAtS lo hi w A (n + 1) c (l ++ [x]) (S ++ [sp]) := by
  have hg := h.2.2.2 i x sp hx hsp
  refine .inr ⟨?_, by simp [h.1], by simp [h.2.1], (h.inner).app (Inn.one hg.1 hg.2.1 hg.2.2)⟩
  rw [pcells_app _ _ _ _ (by rw [h.1, h.2.1])]
  simpa [pcells] using ho
/-- The row without one. -/
theorem row_less {w0 : World} {n : Nat} {l : List Snp} {S : List (Option Addr × Nat)} {A0 : Option Addr} {i : Nat} (h : RdS w0 lo A0 n l S) (hb : Below lo w0 w) (hi' : i < n)
    (ho : w.ownsRow hi 38 5 (.slice A (i + (n - (i + 1))) c) (i + (n - (i + 1))) ((pcells sncells l S).take (i * 5) ++ (pcells sncells l S).drop ((i + 1) * 5))) : RowAtS lo hi w A (i + (n - (i + 1))) c (less1 l i) (less1 S i) :=
  .inr ⟨by rw [pcells_less (by rw [h.1, h.2.1])]; exact ho, less1_len h.1 hi', less1_len h.2.1 hi', (inn_sub h i).below hb⟩
end
end Go.Proofs.Ytdkjdiamekfbdaa
