/-
  Plain facts on rows of fields: what is laid down, what is taken.
-/
import Derived.Test.YtmcbifdfpaooaaaTgSkPlain
namespace Go.Proofs.Ytmcbifdfpaooaaa.Tl
open Go.Proofs.Ytmcbifdfpaooaaa.Vi (put take put_len put_byte take_put take_put0 take_back take_cut take_err put_inj)
open Go.Proofs.Ytmcbifdfpaooaaa.Tg

/-- A field: its number, its kind, a number or bytes. -/
structure Fel where
  num : Int
  wire : Int
  n : Nat
  b : List Nat
/-- What a field of the program may hold. -/
def Fel.wf (f : Fel) : Prop := f.n < 18446744073709551616 ∧ ∀ c ∈ f.b, c < 256
def falls (a b : Fel) : Bool := decide (b.num < a.num) || decide (b.num = a.num) && (decide (a.wire ≠ 2) || decide (b.wire ≠ 2))
def one (f : Fel) : List Nat := (tput f.num f.wire).1 ++ if f.wire = 0 then put f.n else put f.b.length ++ f.b
def fit (f : Fel) : Bool := okTag f.num f.wire && !(decide (f.wire = 0) && decide (0 < f.b.length)) && !(decide (f.wire = 2) && decide (f.n ≠ 0))
def mayGo : Option Fel → List Fel → Nat
  | _, [] => 0
  | p, f :: l => if fit f = false then 1 else if p.any (falls · f) then 5 else if 16384 < f.b.length then 4 else mayGo (some f) l
def flat (l : List Fel) : List Nat := (l.map one).flatten
def may (l : List Fel) : Nat := if mayGo none l ≠ 0 then mayGo none l else if 16384 < (flat l).length then 4 else 0
def putRow (l : List Fel) : List Nat × Nat := if may l ≠ 0 then ([], may l) else (flat l, 0)
/-- The field with which bytes begin. -/
def fieldOf (bs : List Nat) : Fel :=
  if (ttake bs).wire = 0 then ⟨(ttake bs).num, 0, (take (bs.drop (ttake bs).size)).1, []⟩
  else ⟨(ttake bs).num, (ttake bs).wire, 0, (bs.take (tskip bs).1).drop ((ttake bs).size + (take (bs.drop (ttake bs).size)).2.1)⟩
def takeGo : Nat → Option Fel → List Nat → List Fel × Nat
  | 0, _, _ => ([], 0)
  | _ + 1, _, [] => ([], 0)
  | k + 1, p, c :: bs =>
    if (tskip (c :: bs)).2 ≠ 0 then ([], (tskip (c :: bs)).2)
    else if p.any (falls · (fieldOf (c :: bs))) then ([], 5)
    else if (takeGo k (some (fieldOf (c :: bs))) ((c :: bs).drop (tskip (c :: bs)).1)).2 ≠ 0 then ([], (takeGo k (some (fieldOf (c :: bs))) ((c :: bs).drop (tskip (c :: bs)).1)).2)
    else (fieldOf (c :: bs) :: (takeGo k (some (fieldOf (c :: bs))) ((c :: bs).drop (tskip (c :: bs)).1)).1, 0)
def takeRow (bs : List Nat) : List Fel × Nat := if 16384 < bs.length then ([], 4) else takeGo bs.length none bs

theorem fit_iff {f : Fel} : fit f = true ↔ okTag f.num f.wire = true ∧ (f.wire = 0 → f.b = []) ∧ (f.wire = 2 → f.n = 0) := by
  unfold fit
  simp only [Bool.and_eq_true, Bool.not_eq_true', Bool.and_eq_false_iff, decide_eq_false_iff_not, decide_eq_true_eq, Nat.not_lt, Nat.le_zero, List.length_eq_zero_iff, ne_eq, Decidable.not_not, and_assoc]
  constructor
  · rintro ⟨h1, h2, h3⟩
    exact ⟨h1, fun h => h2.elim (fun h' => absurd h h') id, fun h => h3.elim (fun h' => absurd h h') id⟩
  · rintro ⟨h1, h2, h3⟩
    exact ⟨h1, (Decidable.em (f.wire = 0)).elim (fun h => .inr (h2 h)) .inl, (Decidable.em (f.wire = 2)).elim (fun h => .inr (h3 h)) .inl⟩
theorem one_pos {f : Fel} (h : fit f = true) : 1 ≤ (one f).length := by
  have h1 := (fit_iff.1 h).1
  have h2 := tput_len h1
  unfold one
  rw [List.length_append, h2]
  split <;> omega
theorem flat_nil : flat [] = [] := rfl
theorem flat_cons (f : Fel) (l : List Fel) : flat (f :: l) = one f ++ flat l := by simp [flat]
theorem flat_app (l m : List Fel) : flat (l ++ m) = flat l ++ flat m := by simp [flat]

/-- A field that was laid down, skipped and taken. -/
theorem skip_one {f : Fel} (hf : fit f = true) (hw : f.wf) (hb : f.b.length ≤ 16384) (rest : List Nat) : tskip (one f ++ rest) = ((one f).length, 0) ∧ fieldOf (one f ++ rest) = f := by
  obtain ⟨h1, h2, h3⟩ := fit_iff.1 hf
  have hk := okTag_iff.1 h1
  obtain ⟨num, wire, n, b⟩ := f
  rcases hk.2.2 with h0 | h0
  · obtain rfl : wire = 0 := h0
    obtain rfl : b = [] := h2 rfl
    have e1 : one ⟨num, 0, n, []⟩ = (tput num 0).1 ++ put n := rfl
    have hs := skip_number h1 n hw.1 rest
    rw [e1]
    refine ⟨by rw [hs, List.length_append], ?_⟩
    have ht := ttake_put num 0 (put n ++ rest) h1
    unfold fieldOf
    rw [List.append_assoc, ht]
    simp only [Int.toNat_zero, if_true]
    rw [drop_len _ _ rfl, take_put n rest hw.1]
    simp only [Fel.mk.injEq, and_true]
    exact Int.toNat_of_nonneg (by have := hk.1; simp only at this; omega)
  · obtain rfl : wire = 2 := h0
    obtain rfl : n = 0 := h3 rfl
    have e1 : one ⟨num, 2, 0, b⟩ = (tput num 2).1 ++ put b.length ++ b := by
      show (tput num 2).1 ++ (put b.length ++ b) = _
      rw [List.append_assoc]
    have hs := skip_bytes h1 b rest hb
    rw [e1]
    refine ⟨by rw [hs]; simp [Nat.add_assoc], ?_⟩
    have ht := ttake_put num 2 (put b.length ++ (b ++ rest)) h1
    have hb' : b.length < 18446744073709551616 := by simp only at hb; omega
    unfold fieldOf
    rw [hs, List.append_assoc, List.append_assoc, ht]
    rw [if_neg (show ¬ (Int.toNat 2 = 0) by decide)]
    rw [drop_len _ _ rfl, take_put _ _ hb']
    simp only [Fel.mk.injEq, true_and]
    refine ⟨Int.toNat_of_nonneg (by have := hk.1; simp only at this; omega), rfl, ?_⟩
    have e2 : ((tput num 2).1 ++ put b.length ++ b).length = (tput num 2).1.length + (put b.length).length + b.length := by simp [Nat.add_assoc]
    have e3 : (tput num 2).1 ++ (put b.length ++ (b ++ rest)) = (tput num 2).1 ++ put b.length ++ b ++ rest := by simp
    try rw [e3]
    rw [← e2, List.take_left' rfl, drop_len _ _ (by simp)]

/-- What was laid down is taken as it was. -/
theorem takeGo_put : ∀ (l : List Fel) (p : Option Fel) (k : Nat), (∀ f ∈ l, f.wf) → mayGo p l = 0 → (flat l).length ≤ k → takeGo k p (flat l) = (l, 0)
  | [], p, k, _, _, _ => by cases k <;> rfl
  | f :: l, p, k, hw, hm, hk => by
    unfold mayGo at hm
    split at hm
    · cases hm
    rename_i hf
    split at hm
    · cases hm
    rename_i hp
    split at hm
    · cases hm
    rename_i hb
    have hf' : fit f = true := by simpa using hf
    obtain ⟨hs, hg⟩ := skip_one hf' (hw f (by simp)) (by omega) (flat l)
    have hl := one_pos hf'
    rw [flat_cons] at hk ⊢
    rw [List.length_append] at hk
    obtain ⟨k, rfl⟩ : ∃ j, k = j + 1 := ⟨k - 1, by omega⟩
    obtain ⟨c, r, hc⟩ : ∃ c r, one f ++ flat l = c :: r := by
      cases h : one f ++ flat l with
      | nil => rw [List.append_eq_nil_iff] at h; rw [h.1] at hl; simp at hl
      | cons c r => exact ⟨c, r, rfl⟩
    have ih := takeGo_put l (some f) k (fun g hg => hw g (by simp [hg])) hm (by omega)
    rw [hc] at hs hg ⊢
    unfold takeGo
    rw [hs, hg, if_neg (by simp), if_neg hp]
    rw [← hc, drop_len _ _ rfl, ih]
    simp

theorem takeRow_put {l : List Fel} (hw : ∀ f ∈ l, f.wf) (h : may l = 0) : takeRow (flat l) = (l, 0) ∧ putRow l = (flat l, 0) := by
  have hm := h
  unfold may at h
  split at h
  · rename_i h1; exact absurd h h1
  rename_i h1
  split at h
  · cases h
  rename_i h2
  refine ⟨?_, by unfold putRow; rw [if_neg (by omega)]⟩
  unfold takeRow
  rw [if_neg h2]
  exact takeGo_put l none _ hw (by omega) (Nat.le_refl _)
end Go.Proofs.Ytmcbifdfpaooaaa.Tl
