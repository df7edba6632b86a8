/-
  Rows whose elements have several cells, none of them an address: what they read as.
-/
import Derived.Test.YtdkjdiamekfbdaaWords
import Derived.Deep.AppendLies
namespace Go.Proofs.Ytdkjdiamekfbdaa
open Go.RowKit

section
variable {α : Type} {cf : α → List Value} {sz : Nat}
/-- The cells of a row of elements. -/
def rowc (cf : α → List Value) (l : List α) : List Value := l.flatMap cf
theorem rowc_nil : rowc cf [] = [] := rfl
theorem rowc_cons (a : α) (l : List α) : rowc cf (a :: l) = cf a ++ rowc cf l := by simp [rowc]
theorem rowc_app (l m : List α) : rowc cf (l ++ m) = rowc cf l ++ rowc cf m := by simp [rowc]
theorem rowc_one (a : α) : rowc cf [a] = cf a := by simp [rowc]
theorem rowc_len (h : ∀ a, (cf a).length = sz) : ∀ l : List α, (rowc cf l).length = l.length * sz
  | [] => by simp [rowc]
  | a :: l => by rw [rowc_cons, List.length_append, h, rowc_len h l, List.length_cons, Nat.succ_mul]; omega
theorem rowc_get (h : ∀ a, (cf a).length = sz) : ∀ (l : List α) (k i : Nat) (a : α), l[k]? = some a → i < sz → (rowc cf l)[k * sz + i]? = (cf a)[i]?
  | [], _, _, _, h0, _ => by simp at h0
  | b :: l, 0, i, a, h0, hi => by
    simp at h0
    subst h0
    rw [rowc_cons, List.getElem?_append_left (by rw [h]; omega)]
    simp
  | b :: l, k + 1, i, a, h0, hi => by
    simp at h0
    rw [rowc_cons, List.getElem?_append_right (by rw [h, Nat.succ_mul]; omega), h, ← rowc_get h l k i a h0 hi]
    congr 1
    rw [Nat.succ_mul]; omega
theorem rowc_cell (h : ∀ a, ∀ u ∈ cf a, u.oneCell' = true) (l : List α) : ∀ u ∈ rowc cf l, u.oneCell' = true := by
  intro u hu
  obtain ⟨a, _, hua⟩ := List.mem_flatMap.1 hu
  exact h a u hua
theorem rowc_set (h : ∀ a, (cf a).length = sz) : ∀ (l : List α) (k i : Nat) (a b : α) (v : Value), l[k]? = some a → i < sz → cf b = (cf a).set i v → rowc cf (l.set k b) = (rowc cf l).set (k * sz + i) v
  | [], _, _, _, _, _, h0, _, _ => by simp at h0
  | c :: l, 0, i, a, b, v, h0, hi, hb => by
    simp at h0
    subst h0
    rw [List.set_cons_zero, rowc_cons, rowc_cons, hb, List.set_append_left _ _ (by rw [h]; omega)]
    simp
  | c :: l, k + 1, i, a, b, v, h0, hi, hb => by
    simp at h0
    rw [List.set_cons_succ, rowc_cons, rowc_cons, rowc_set h l k i a b v h0 hi hb, List.set_append_right _ _ (by rw [h, Nat.succ_mul]; omega), h]
    congr 2
    rw [Nat.succ_mul]; omega

/-- A slice that reads as these elements, below block B. -/
def RdR (cf : α → List Value) (sz : Nat) (w : World) (B : Nat) (A : Option Addr) (n : Nat) (l : List α) : Prop := l.length = n ∧ Rd w B sz A n (rowc cf l)
variable {w w' : World} {B B' n : Nat} {A : Option Addr} {l : List α}
theorem RdR.nil (w : World) (B : Nat) (A : Option Addr) : RdR cf sz w B A 0 [] := ⟨rfl, Rd.nil _ _ _ _⟩
theorem RdR.below (h : RdR cf sz w B A n l) (hb : Below B w w') : RdR cf sz w' B A n l := ⟨h.1, h.2.below hb⟩
theorem RdR.more (h : RdR cf sz w B A n l) (hB : B ≤ B') : RdR cf sz w B' A n l := ⟨h.1, h.2.more hB⟩
/-- The k-th element's cells. -/
theorem RdR.get (hc : ∀ a, (cf a).length = sz) (h : RdR cf sz w B A n l) {k : Nat} (hk : k < n) : ∃ (ad : Addr) (a : α), A = some ad ∧ ad.block < B ∧ l[k]? = some a ∧ ∀ i v, (cf a)[i]? = some v → w.cell? (ad.add (k * sz + i)) = some v := by
  obtain ⟨h1, h2, h0 | ⟨ad, hA, hb, hcell⟩⟩ := h
  · omega
  obtain ⟨a, ha⟩ : ∃ a, l[k]? = some a := ⟨l[k]'(by omega), by simp⟩
  refine ⟨ad, a, hA, hb, ha, fun i v hv => hcell _ _ ?_⟩
  rw [rowc_get hc l k i a ha (by have := (List.getElem?_eq_some_iff.1 hv).1; rw [hc] at this; exact this)]
  exact hv
theorem RdR.of_own {base : Nat} {e : TypeId} {v : Value} (h : w.ownsRow base e sz v n (rowc cf l)) (hl : l.length = n) : ∃ (A : Option Addr) (c : Nat), v = .slice A n c ∧ n ≤ c ∧ c ≤ 9223372036854775807 ∧ RdR cf sz w w.heap.size A n l := by
  obtain ⟨A, c, rfl, h1, h2⟩ := slice_of_own h
  exact ⟨A, c, rfl, h1, h2, hl, Rd.of_own h⟩
end

theorem own_cap' {w : World} {base : Nat} {e : TypeId} {size n m c : Nat} {A : Option Addr} {xs : List Value} (h : w.ownsRow base e size (.slice A m c) n xs) : n ≤ c ∧ c ≤ 9223372036854775807 := by
  obtain ⟨A', c', hv, h1, h2⟩ := slice_of_own h
  cases hv
  exact ⟨h1, h2⟩
/-- A row that was just written out. -/
theorem own_lit {w : World} {base : Nat} {e : TypeId} {size n : Nat} {xs : List Value} (hl : xs.length = n * size) (hn : n ≤ maxLen) (hb : base ≤ w.heap.size) :
    (w.alloc (.cells xs.toArray e)).ownsRow base e size (.slice (some ⟨w.heap.size, 0, none⟩) n n) n xs :=
  ⟨hl, .inr ⟨w.heap.size, n, xs.toArray, rfl, hb, heap_alloc_new w _, Nat.le_refl _, hn, by simpa using hl, by simp [← hl]⟩⟩
/-- The address behind another one, as a load of several cells spells it. -/
theorem add_spell' (a : Addr) (k i : Nat) (hi : 0 < i) : (⟨(a.add k).block, (a.add k).off + i, none⟩ : Addr) = a.add (k + i) := by
  rw [← add_twice]
  generalize a.add k = b
  unfold Addr.add
  rw [if_neg (by omega)]
theorem bel_drew' {B : Nat} {a w : World} (h : Below B a w) (n : Nat) : Below B a (w.drewN n) := h.trans ⟨rfl, rfl, rfl, Nat.le_refl _, fun _ _ => rfl⟩
/-- The new block of an element of several cells. -/
theorem cells_new (w : World) (cs : List Value) (t : TypeId) : ∀ j u, cs[j]? = some u → (w.alloc (.cells cs.toArray t)).cell? ((⟨w.heap.size, 0, none⟩ : Addr).add j) = some u := by
  intro j u hj
  have hadd : (⟨w.heap.size, 0, none⟩ : Addr).add j = ⟨w.heap.size, j, none⟩ := by unfold Addr.add; split <;> simp_all
  rw [hadd, (Blk.new w cs.toArray t).cell]
  simpa using hj
/-- One of two rows of the call's own grows; the other one stays. -/
theorem grow_two {w wr w2 : World} {e2 : TypeId} {sz2 g1 n1 c1 g H n2 : Nat} {xs2 : List Value} {v2 : Value} {o : Obj} (hb : Below w.heap.size w wr) (hg1 : w.heap.size ≤ g1) (h2 : wr.ownsRow w.heap.size e2 sz2 v2 n2 xs2) (hne : v2.ownBlock ≠ some g1)
    (hgrow : (wr.alloc o).grownBy w2 (Value.slice (some ⟨g1, 0, none⟩) n1 c1).ownBlock) (hat : (Value.slice (some ⟨g1, 0, none⟩) n1 c1).ownBlock = some g ∨ g = H) (hH : H = wr.heap.size + 1) :
    w2.ownsRow w.heap.size e2 sz2 v2 n2 xs2 ∧ v2.ownBlock ≠ some g ∧ Below w.heap.size w w2 := by
  have hsz := hb.size
  refine ⟨(h2.alloc o).kept hgrow (.inr (by simpa [Value.ownBlock] using hne)), ?_, (hb.alloc hsz _).grown hgrow (by simp; omega) (fun k hk => by simp [Value.ownBlock] at hk; omega)⟩
  rcases hat with h | h
  · simp [Value.ownBlock] at h
    rw [← h]
    exact hne
  · intro he
    have := (h2.lt g he).2
    omega
end Go.Proofs.Ytdkjdiamekfbdaa
