/-
  Plain facts on rows of fields: a row that is cut; parted; joined; two fields; how many bytes.
-/
import Derived.Test.YtmcbifdfpaooaaaTlBack
namespace Go.Proofs.Ytmcbifdfpaooaaa.Tl
open Go.Proofs.Ytmcbifdfpaooaaa.Vi (put take put_len put_byte take_put take_put0 take_back take_cut take_err put_inj)
open Go.Proofs.Ytmcbifdfpaooaaa.Tg

theorem mayGo_cons {p : Option Fel} {f : Fel} {l : List Fel} : mayGo p (f :: l) = 0 ↔ fit f = true ∧ p.any (falls · f) = false ∧ f.b.length ≤ 16384 ∧ mayGo (some f) l = 0 := by
  rw [mayGo]
  constructor
  · intro h
    split at h
    · cases h
    rename_i h1
    split at h
    · cases h
    rename_i h2
    split at h
    · cases h
    rename_i h3
    exact ⟨by simpa using h1, by simpa using h2, by omega, h⟩
  · rintro ⟨h1, h2, h3, h4⟩
    rw [if_neg (by rw [h1]; decide), if_neg (by rw [h2]; decide), if_neg (by omega), h4]
theorem may_zero {l : List Fel} : may l = 0 ↔ mayGo none l = 0 ∧ (flat l).length ≤ 16384 := by
  unfold may
  constructor
  · intro h
    split at h
    · rename_i h1; exact absurd h h1
    rename_i h1
    split at h
    · cases h
    · omega
  · rintro ⟨h1, h2⟩
    rw [h1]; simp only [ne_eq, not_true, if_false]; rw [if_neg (by omega)]

/-- A field that is cut goes on. -/
theorem skip_one_cut {f : Fel} (hf : fit f = true) (hw : f.wf) (hb : f.b.length ≤ 16384) {j : Nat} (hj : j < (one f).length) : tskip ((one f).take j) = (0, 2) := by
  obtain ⟨h1, h2, h3⟩ := fit_iff.1 hf
  have hk := okTag_iff.1 h1
  obtain ⟨num, wire, n, b⟩ := f
  rcases hk.2.2 with h0 | h0
  · obtain rfl : wire = 0 := h0
    have e1 : one ⟨num, 0, n, b⟩ = (tput num 0).1 ++ put n := rfl
    rw [e1] at hj ⊢
    rw [List.length_append] at hj
    exact skip_number_cut h1 n hw.1 hj
  · obtain rfl : wire = 2 := h0
    have e1 : one ⟨num, 2, n, b⟩ = (tput num 2).1 ++ put b.length ++ b := by
      show (tput num 2).1 ++ (put b.length ++ b) = _
      rw [List.append_assoc]
    rw [e1] at hj ⊢
    rw [List.length_append, List.length_append] at hj
    exact skip_bytes_cut h1 b hb hj
theorem takeGo_step {k : Nat} {p : Option Fel} {bs : List Nat} {s : Nat} (hs : tskip bs = (s, 0)) (hne : bs ≠ []) :
    takeGo (k + 1) p bs = if p.any (falls · (fieldOf bs)) then ([], 5) else if (takeGo k (some (fieldOf bs)) (bs.drop s)).2 ≠ 0 then ([], (takeGo k (some (fieldOf bs)) (bs.drop s)).2) else (fieldOf bs :: (takeGo k (some (fieldOf bs)) (bs.drop s)).1, 0) := by
  cases bs with
  | nil => exact absurd rfl hne
  | cons c r =>
    rw [takeGo, hs, if_neg (by simp)]
theorem takeGo_bad {k : Nat} {p : Option Fel} {bs : List Nat} {s e : Nat} (hs : tskip bs = (s, e)) (he : e ≠ 0) (hne : bs ≠ []) : takeGo (k + 1) p bs = ([], e) := by
  cases bs with
  | nil => exact absurd rfl hne
  | cons c r =>
    rw [takeGo, hs, if_pos he]
theorem takeGo_cut : ∀ (l : List Fel) (p : Option Fel) (k j : Nat), (∀ f ∈ l, f.wf) → mayGo p l = 0 → j < (flat l).length → j ≤ k →
    (∃ m, m < l.length ∧ takeGo k p ((flat l).take j) = (l.take m, 0)) ∨ takeGo k p ((flat l).take j) = ([], 2)
  | [], _, _, j, _, _, hj, _ => by simp [flat] at hj
  | f :: l, p, k, 0, _, _, _, _ => .inl ⟨0, by simp, by cases k <;> rfl⟩
  | f :: l, p, 0, j + 1, _, _, _, hk => by omega
  | f :: l, p, k + 1, j + 1, hw, hm, hj, hk => by
    obtain ⟨hf, hp, hb, hm'⟩ := mayGo_cons.1 hm
    rw [flat_cons] at hj ⊢
    rw [List.length_append] at hj
    have hne : ((one f ++ flat l).take (j + 1)).length = j + 1 := by rw [List.length_take, List.length_append]; omega
    obtain ⟨c, r, hc⟩ : ∃ c r, (one f ++ flat l).take (j + 1) = c :: r := by
      cases h : (one f ++ flat l).take (j + 1) with
      | nil => rw [h] at hne; simp at hne
      | cons c r => exact ⟨c, r, rfl⟩
    by_cases h1 : j + 1 < (one f).length
    · have hs := skip_one_cut hf (hw f (by simp)) hb h1
      rw [← List.take_append_of_le_length (l₂ := flat l) (Nat.le_of_lt h1), hc] at hs
      right
      rw [hc]
      unfold takeGo
      rw [hs, if_pos (by decide)]
    · have h2 : (one f ++ flat l).take (j + 1) = one f ++ (flat l).take (j + 1 - (one f).length) := by
        rw [List.take_append, List.take_of_length_le (by omega)]
      obtain ⟨hs, hg⟩ := skip_one hf (hw f (by simp)) hb ((flat l).take (j + 1 - (one f).length))
      have hl := one_pos hf
      have ih := takeGo_cut l (some f) k (j + 1 - (one f).length) (fun g hg => hw g (by simp [hg])) hm' (by omega) (by omega)
      have hstep := takeGo_step (k := k) (p := p) hs (by intro h; rw [List.append_eq_nil_iff] at h; rw [h.1] at hl; simp at hl)
      rw [hg, if_neg (by rw [hp]; decide), drop_len _ _ rfl] at hstep
      rw [h2, hstep]
      rcases ih with ⟨m, hm1, hm2⟩ | h3
      · left
        refine ⟨m + 1, by simp; omega, ?_⟩
        rw [hm2]
        simp
      · right
        rw [h3]
        simp
theorem takeRow_cut {l : List Fel} (hw : ∀ f ∈ l, f.wf) (h : may l = 0) {j : Nat} (hj : j < (flat l).length) :
    (∃ m, m < l.length ∧ takeRow ((flat l).take j) = (l.take m, 0)) ∨ takeRow ((flat l).take j) = ([], 2) := by
  obtain ⟨h1, h2⟩ := may_zero.1 h
  have hl : ((flat l).take j).length = j := by rw [List.length_take]; omega
  unfold takeRow
  rw [if_neg (by omega)]
  exact takeGo_cut l none _ j hw h1 hj (by omega)

/-- Parted. -/
theorem mayGo_up : ∀ (l : List Fel) (f : Fel), mayGo (some f) l = 0 → ∀ g ∈ l, f.num ≤ g.num
  | [], _, _, _, hg => by cases hg
  | h :: l, f, hm, g, hg => by
    obtain ⟨_, hp, _, hm'⟩ := mayGo_cons.1 hm
    have h1 : f.num ≤ h.num := by
      simp only [Option.any_some, falls, Bool.or_eq_false_iff, decide_eq_false_iff_not] at hp
      omega
    rcases List.mem_cons.1 hg with rfl | hg
    · exact h1
    · have := mayGo_up l h hm' g hg
      omega
theorem mayGo_none {p : Option Fel} : ∀ {l : List Fel}, mayGo p l = 0 → mayGo none l = 0
  | [], _ => rfl
  | f :: l, h => by
    obtain ⟨h1, _, h3, h4⟩ := mayGo_cons.1 h
    exact mayGo_cons.2 ⟨h1, rfl, h3, h4⟩
theorem split_at (most : Int) : ∀ (l : List Fel) (p : Option Fel), mayGo p l = 0 →
    l.filter (fun f => decide (f.num ≤ most)) ++ l.filter (fun f => !decide (f.num ≤ most)) = l ∧ mayGo p (l.filter fun f => decide (f.num ≤ most)) = 0 ∧ mayGo none (l.filter fun f => !decide (f.num ≤ most)) = 0
  | [], _, _ => ⟨rfl, rfl, rfl⟩
  | f :: l, p, hm => by
    obtain ⟨h1, h2, h3, h4⟩ := mayGo_cons.1 hm
    by_cases hf : f.num ≤ most
    · obtain ⟨i1, i2, i3⟩ := split_at most l (some f) h4
      rw [List.filter_cons_of_pos (by simpa using hf), List.filter_cons_of_neg (by simpa using hf)]
      exact ⟨by rw [List.cons_append, i1], mayGo_cons.2 ⟨h1, h2, h3, i2⟩, i3⟩
    · have hu := mayGo_up l f h4
      rw [List.filter_cons_of_neg (by simpa using hf), List.filter_cons_of_pos (by simpa using hf)]
      have e1 : l.filter (fun f => decide (f.num ≤ most)) = [] := by
        rw [List.filter_eq_nil_iff]
        intro g hg
        have := hu g hg
        simp only [decide_eq_true_eq]
        omega
      have e2 : l.filter (fun f => !decide (f.num ≤ most)) = l := by
        rw [List.filter_eq_self]
        intro g hg
        have := hu g hg
        simp only [Bool.not_eq_true', decide_eq_false_iff_not]
        omega
      rw [e1, e2]
      exact ⟨rfl, rfl, mayGo_cons.2 ⟨h1, rfl, h3, h4⟩⟩
theorem split_may {l : List Fel} (most : Int) (h : may l = 0) :
    may (l.filter fun f => decide (f.num ≤ most)) = 0 ∧ may (l.filter fun f => !decide (f.num ≤ most)) = 0 ∧
      flat (l.filter fun f => decide (f.num ≤ most)) ++ flat (l.filter fun f => !decide (f.num ≤ most)) = flat l := by
  obtain ⟨h1, h2⟩ := may_zero.1 h
  obtain ⟨i1, i2, i3⟩ := split_at most l none h1
  have i4 := congrArg flat i1
  rw [flat_app] at i4
  have i5 := congrArg List.length i4
  rw [List.length_append] at i5
  exact ⟨may_zero.2 ⟨i2, by omega⟩, may_zero.2 ⟨i3, by omega⟩, i4⟩

/-- Joined. -/
theorem mayGo_join (m : Int) : ∀ (a l : List Fel) (p : Option Fel), mayGo p a = 0 → (∀ f ∈ a, f.num ≤ m) → (∀ f, p = some f → f.num ≤ m) → mayGo none l = 0 → (∀ f ∈ l, m < f.num) → mayGo p (a ++ l) = 0
  | [], [], _, _, _, _, _, _ => rfl
  | [], f :: l, p, _, _, hp, hl, hm => by
    obtain ⟨h1, _, h3, h4⟩ := mayGo_cons.1 hl
    refine mayGo_cons.2 ⟨h1, ?_, h3, h4⟩
    cases p with
    | none => rfl
    | some g =>
      have h5 := hp g rfl
      have h6 := hm f (by simp)
      simp only [Option.any_some, falls, Bool.or_eq_false_iff, Bool.and_eq_false_iff, decide_eq_false_iff_not]
      exact ⟨by omega, .inl (by omega)⟩
  | f :: a, l, p, ha, hA, _, hl, hm => by
    obtain ⟨h1, h2, h3, h4⟩ := mayGo_cons.1 ha
    exact mayGo_cons.2 ⟨h1, h2, h3, mayGo_join m a l (some f) h4 (fun g hg => hA g (by simp [hg])) (fun g hg => by cases hg; exact hA f (by simp)) hl hm⟩
theorem may_join {a l : List Fel} (m : Int) (ha : may a = 0) (hA : ∀ f ∈ a, f.num ≤ m) (hl : may l = 0) (hL : ∀ f ∈ l, m < f.num) (hs : (flat a).length + (flat l).length ≤ 16384) : may (a ++ l) = 0 ∧ flat (a ++ l) = flat a ++ flat l :=
  ⟨may_zero.2 ⟨mayGo_join m a l none (may_zero.1 ha).1 hA (fun _ h => by cases h) (may_zero.1 hl).1 hL, by rw [flat_app, List.length_append]; exact hs⟩, flat_app a l⟩
end Go.Proofs.Ytmcbifdfpaooaaa.Tl
