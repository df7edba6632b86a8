/-
  What follows from layer 6's definitions.
-/
import Derived.Test.YtcbfcjpmoechlaaRfPlain
set_option linter.unusedVariables false
set_option linter.unusedSimpArgs false
namespace Go.Proofs.Ytcbfcjpmoechlaa
namespace Rf

theorem cnt_without_le (l : List Snp) (id c : Int) : cnt (without l id) c ≤ cnt l c := by
  unfold without
  induction l with
  | nil => simp
  | cons s l ih =>
    rw [List.filter_cons]
    split
    · rw [cnt_cons, cnt_cons]; omega
    · rw [cnt_cons]; omega
theorem has_without {l : List Snp} {id : Int} {i : Nat} (h : has (without l id) i = true) : has l i = true := by
  unfold has at *
  have := cnt_without_le l id ((i : Int) + 1)
  simp only [decide_eq_true_eq] at *
  omega
theorem distinctN_freed (l : List Snp) (id : Int) : ∀ n : Nat, distinctN (without l id) n + (freedN l id n).length = distinctN l n
  | 0 => rfl
  | n + 1 => by
    have ih := distinctN_freed l id n
    rw [distinctN_succ, distinctN_succ, freedN_succ, List.length_append]
    cases h1 : has l n with
    | true =>
      cases h2 : has (without l id) n with
      | true => simp; omega
      | false => simp; omega
    | false =>
      cases h2 : has (without l id) n with
      | true => rw [has_without h2] at h1; cases h1
      | false => simp; omega
theorem distinct_freed (l : List Snp) (id : Int) : distinct (without l id) + (freed l id).length = distinct l := distinctN_freed l id 64
theorem distinct_le (l : List Snp) : distinct l ≤ 64 := distinctN_le l 64
theorem freed_mem {l : List Snp} {id c : Int} (h : c ∈ freed l id) : ∃ i : Nat, i < 64 ∧ c = (i : Int) + 1 ∧ 0 < cnt l c ∧ cnt (without l id) c = 0 := by
  unfold freed freedN at h
  obtain ⟨i, hi, rfl⟩ := List.mem_map.1 h
  obtain ⟨h1, h2⟩ := List.mem_filter.1 hi
  have h3 := List.mem_range.1 h1
  simp only [has, Bool.and_eq_true, decide_eq_true_eq, Bool.not_eq_true', decide_eq_false_iff_not] at h2
  exact ⟨i, h3, rfl, h2.1, by omega⟩
theorem cnt_without_eq : ∀ {l : List Snp} {id c : Int}, (l.any fun a => a.id == id && a.chunks.any (· == c)) = false → cnt (without l id) c = cnt l c
  | [], _, _, _ => rfl
  | s :: l, id, c, h => by
    rw [List.any_cons, Bool.or_eq_false_iff] at h
    have ih := cnt_without_eq h.2
    have h1 := h.1
    unfold without at *
    rw [List.filter_cons]
    by_cases e : s.id = id
    · have h2 : (s.chunks.any (· == c)) = false := by simpa [e] using h1
      have h3 : s.chunks.count c = 0 := by
        rw [List.count_eq_zero]
        intro hc
        have : (s.chunks.any (· == c)) = true := List.any_eq_true.2 ⟨c, hc, by simp⟩
        rw [h2] at this; cases this
      rw [if_neg (by simp [e]), ih, cnt_cons, h3]; omega
    · rw [if_pos (by simpa using e), cnt_cons, cnt_cons, ih]
theorem freed_had {l : List Snp} {id c : Int} (h : c ∈ freed l id) : (l.any fun a => a.id == id && a.chunks.any (· == c)) = true := by
  obtain ⟨i, _, _, h1, h2⟩ := freed_mem h
  cases e : (l.any fun a => a.id == id && a.chunks.any (· == c)) with
  | true => rfl
  | false =>
    have := cnt_without_eq e
    omega
theorem freed_rise (l : List Snp) (id : Int) : (freed l id).Pairwise (· < ·) := by
  unfold freed freedN
  rw [List.pairwise_map]
  refine List.Pairwise.imp ?_ (List.Pairwise.filter _ List.pairwise_lt_range)
  intro a b h
  omega
theorem freed_step {l : List Snp} {id x y : Int} {k : Nat} (hy : (freed l id)[k]? = some y) (hx : (freed l id)[k + 1]? = some x) : y < x := by
  obtain ⟨h1, rfl⟩ := List.getElem?_eq_some_iff.1 hy
  obtain ⟨h2, rfl⟩ := List.getElem?_eq_some_iff.1 hx
  exact List.pairwise_iff_getElem.1 (freed_rise l id) k (k + 1) h1 h2 (by omega)
theorem without_none {l : List Snp} {id : Int} (h : (l.any fun a => a.id == id) = false) : without l id = l := by
  unfold without
  rw [List.filter_eq_self]
  intro a ha
  rw [List.any_eq_false] at h
  have := h a ha
  simpa [bne] using this
theorem freed_none {l : List Snp} {id : Int} (h : (l.any fun a => a.id == id) = false) : freed l id = [] := by
  have h1 := distinct_freed l id
  rw [without_none h] at h1
  exact List.length_eq_zero_iff.1 (by omega)
theorem any_take {α : Type} {l : List α} {j : Nat} {a : α} (h : l[j]? = some a) (p : α → Bool) : (l.take (j + 1)).any p = ((l.take j).any p || p a) := by
  rw [List.take_add_one, h, List.any_append]
  simp
end Rf
end Go.Proofs.Ytcbfcjpmoechlaa
