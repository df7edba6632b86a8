/-
  Plain facts on looking fields up among specs, and on how often numbers stand there.
-/
import Derived.Test.YtkagonijkalicaaFoCheck
set_option linter.unusedVariables false
set_option linter.unusedSimpArgs false
namespace Go.Proofs.Ytkagonijkalicaa.Fo
open Go.Proofs.Ytkagonijkalicaa.Tl (Fel may mayGo fit fit_iff mayGo_fit)
open Go.Proofs.Ytkagonijkalicaa (cnt_snoc okf_bad check_bad check_ok)

/-- The last spec of that number. -/
def lookS (L : List Spc) (i : Int) : Option Spc := L.reverse.find? (fun s => decide (s.num = i))
theorem lookS_snoc (L : List Spc) (s : Spc) (i : Int) : lookS (L ++ [s]) i = if s.num = i then some s else lookS L i := by
  unfold lookS
  rw [List.reverse_append]
  simp [List.find?_cons]
  split <;> simp_all
theorem lookS_mem {L : List Spc} {i : Int} {s : Spc} (h : lookS L i = some s) : s ∈ L ∧ s.num = i := by
  unfold lookS at h
  exact ⟨List.mem_reverse.1 (List.mem_of_find?_eq_some h), by simpa using List.find?_some h⟩
theorem lookS_none {L : List Spc} {i : Int} (h : lookS L i = none) : ∀ s ∈ L, s.num ≠ i := by
  unfold lookS at h
  intro s hs e
  have := List.find?_eq_none.1 h s (List.mem_reverse.2 hs)
  simp [e] at this
/-- No number stands twice. -/
def Apart (L : List Spc) : Prop := L.Pairwise (fun s t => s.num ≠ t.num)
theorem lookS_apart {L : List Spc} (h : Apart L) {s : Spc} (hs : s ∈ L) : lookS L s.num = some s := by
  cases hl : lookS L s.num with
  | none => exact absurd rfl (lookS_none hl s hs)
  | some t =>
    obtain ⟨ht, hn⟩ := lookS_mem hl
    obtain ⟨i, hi, rfl⟩ := List.getElem_of_mem hs
    obtain ⟨j, hj, rfl⟩ := List.getElem_of_mem ht
    have hp := List.pairwise_iff_getElem.1 h
    by_cases hij : i = j
    · subst hij; rfl
    · rcases Nat.lt_or_gt_of_ne hij with h' | h'
      · exact absurd hn.symm (hp i j hi hj h')
      · exact absurd hn (hp j i hj hi h')
theorem specs_apart (k v : Int) : Apart (specs k v) := by
  refine List.Pairwise.filter _ ?_
  unfold specAll
  repeat' split
  all_goals (simp [numS, bytS])

/-- How often a number stands there. -/
def cntN (l : List Fel) (i : Int) : Nat := (l.filter fun f => decide (f.num = i)).length
theorem cntN_snoc {l : List Fel} {k : Nat} {f : Fel} (h : l[k]? = some f) (i : Int) : cntN (l.take (k + 1)) i = cntN (l.take k) i + if f.num = i then 1 else 0 := by
  unfold cntN
  rw [List.take_add_one, h, List.filter_append, List.length_append]
  by_cases hh : f.num = i <;> simp [hh, List.filter_cons]
theorem cntN_le (l : List Fel) (i : Int) : cntN l i ≤ l.length := List.length_filter_le _ _
theorem cntN_take (l : List Fel) (k : Nat) (i : Int) : cntN (l.take k) i ≤ cntN l i := by
  unfold cntN
  exact ((List.take_sublist k l).filter _).length_le

/-- Whether the field at that place is as its spec says, and is not too many. -/
def okAt (s : Spc) (f : Fel) (c : Nat) : Bool := !(decide (f.n = 0) && decide (f.b.length = 0)) && decide (f.wire = s.wire) && !(decide (1 < c) && !s.many)
theorem okAt_field {s : Spc} {f : Fel} {c : Nat} (hf : fit f = true) (hn : f.num = s.num) : okAt s f c = (okField s f && !(decide (1 < c) && !s.many)) := by
  obtain ⟨h1, h2, h3⟩ := fit_iff.1 hf
  have hw := (Tg.okTag_iff.1 h1).2.2
  unfold okAt okField
  rw [decide_eq_false (show ¬ f.num ≠ s.num from fun h => h hn), Bool.false_or]
  congr 1
  rcases hw with h0 | h0
  · have hb := h2 h0
    rw [h0, hb]
    simp only [List.length_nil, decide_true, Bool.true_and, Bool.and_true]
    rw [decide_eq_false (show ¬ (0 : Int) = 2 by decide)]
    simp only [Bool.false_and, Bool.not_false, Bool.and_true]
    rw [Bool.and_comm]
  · have hn := h3 h0
    rw [h0, hn]
    simp only [decide_true, Bool.true_and]
    rw [decide_eq_false (show ¬ (2 : Int) = 0 by decide)]
    simp only [Bool.false_and, Bool.not_false, Bool.and_true]
    rw [Bool.and_comm]
theorem okAt_bad {L : List Spc} {l : List Fel} {k : Nat} {f : Fel} {s : Spc} (hfit : fit f = true) (hf : l[k]? = some f) (hs : lookS L f.num = some s) (h : okAt s f (cntN (l.take (k + 1)) f.num) = false) : ∃ s ∈ L, okSpec s l = false := by
  obtain ⟨hm, hn⟩ := lookS_mem hs
  refine ⟨s, hm, ?_⟩
  rw [okAt_field hfit hn.symm] at h
  cases ho : okField s f with
  | false => exact okf_bad hf ho
  | true =>
    rw [ho, Bool.true_and] at h
    have h1 : 1 < cntN (l.take (k + 1)) f.num ∧ s.many = false := by simpa using h
    have h2 := cntN_take l (k + 1) f.num
    unfold okSpec
    have h3 : cnt s l = cntN l f.num := by unfold cnt cntN; rw [hn]
    rw [h3, h1.2, decide_eq_true (show 1 < cntN l f.num by omega)]
    simp
/-- All that is looked at is as it must be. -/
def AllAt (L : List Spc) (l : List Fel) (k : Nat) : Prop := ∀ (j : Nat) (f : Fel) (s : Spc), j < k → l[j]? = some f → lookS L f.num = some s → okAt s f (cntN (l.take (j + 1)) f.num) = true
theorem allAt_zero (L : List Spc) (l : List Fel) : AllAt L l 0 := fun _ _ _ h => absurd h (Nat.not_lt_zero _)
theorem allAt_none {L : List Spc} {l : List Fel} {k : Nat} {f : Fel} (h : AllAt L l k) (hf : l[k]? = some f) (hs : lookS L f.num = none) : AllAt L l (k + 1) := by
  intro j g s hj hg hl
  rcases Nat.lt_or_ge j k with h' | h'
  · exact h j g s h' hg hl
  · obtain rfl : j = k := by omega
    rw [hf] at hg
    cases hg
    rw [hs] at hl
    cases hl
theorem allAt_some {L : List Spc} {l : List Fel} {k : Nat} {f : Fel} {t : Spc} (h : AllAt L l k) (hf : l[k]? = some f) (hs : lookS L f.num = some t) (ho : okAt t f (cntN (l.take (k + 1)) f.num) = true) : AllAt L l (k + 1) := by
  intro j g s hj hg hl
  rcases Nat.lt_or_ge j k with h' | h'
  · exact h j g s h' hg hl
  · obtain rfl : j = k := by omega
    rw [hf] at hg
    cases hg
    rw [hs] at hl
    cases hl
    exact ho
/-- Then no spec is broken but by what is missing. -/
theorem allAt_ok {L : List Spc} {l : List Fel} (ha : Apart L) (hfit : ∀ f ∈ l, fit f = true) (h : AllAt L l l.length) : ∀ s ∈ L, okSpec s l = !(decide (cntN l s.num = 0) && s.need) := by
  intro s hs
  have hl := lookS_apart ha hs
  have h1 : l.all (okField s) = true := by
    rw [List.all_eq_true]
    intro f hf
    obtain ⟨j, hj, rfl⟩ := List.getElem_of_mem hf
    by_cases hn : l[j].num = s.num
    · have := h j l[j] s hj (List.getElem?_eq_getElem hj) (by rw [hn]; exact hl)
      rw [okAt_field (hfit _ hf) hn, Bool.and_eq_true] at this
      exact this.1
    · unfold okField
      rw [decide_eq_true hn, Bool.true_or]
  have h2 : (decide (1 < cnt s l) && !s.many) = false := by
    cases hm : s.many with
    | true => simp
    | false =>
      simp only [Bool.not_false, Bool.and_true, decide_eq_false_iff_not]
      intro hc
      have hex : ∃ k, k < l.length ∧ 1 < cntN (l.take (k + 1)) s.num ∧ ¬ 1 < cntN (l.take k) s.num := by
        have key : ∀ k, k ≤ l.length → 1 < cntN (l.take k) s.num → ∃ k, k < l.length ∧ 1 < cntN (l.take (k + 1)) s.num ∧ ¬ 1 < cntN (l.take k) s.num := by
          intro k
          induction k with
          | zero => intro _ h; simp [cntN] at h
          | succ k ih =>
            intro hk h
            by_cases h' : 1 < cntN (l.take k) s.num
            · exact ih (by omega) h'
            · exact ⟨k, by omega, h, h'⟩
        refine key l.length (Nat.le_refl _) ?_
        rw [List.take_length]
        exact hc
      obtain ⟨k, hk, h3, h4⟩ := hex
      have hg := List.getElem?_eq_getElem hk
      have hsn := cntN_snoc hg s.num
      by_cases hn : l[k].num = s.num
      · have := h k l[k] s hk hg (by rw [hn]; exact hl)
        rw [okAt_field (hfit _ (List.getElem_mem hk)) hn, hm, hn, decide_eq_true h3] at this
        simp at this
      · rw [if_neg hn] at hsn
        omega
  unfold okSpec
  rw [h1, h2]
  rfl
theorem may_fit {l : List Fel} (h : may l = 0) : ∀ f ∈ l, fit f = true := by
  intro f hf
  unfold may at h
  split at h
  · rename_i hne; exact absurd h hne
  · rename_i hne
    exact (mayGo_fit (Decidable.not_not.1 hne) f hf).1
end Go.Proofs.Ytkagonijkalicaa.Fo
