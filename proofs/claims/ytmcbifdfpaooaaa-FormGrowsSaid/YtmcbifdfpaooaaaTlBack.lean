/-
  Plain facts on rows of fields: bytes that are taken are those that the row is laid down as; a row that is cut.
-/
import Derived.Test.YtmcbifdfpaooaaaTlPlain
namespace Go.Proofs.Ytmcbifdfpaooaaa.Tl
open Go.Proofs.Ytmcbifdfpaooaaa.Vi (put take put_len put_byte take_put take_put0 take_back take_cut take_err put_inj)
open Go.Proofs.Ytmcbifdfpaooaaa.Tg

theorem fieldOf_back {bs : List Nat} (hb : ∀ c ∈ bs, c < 256) {s : Nat} (h : tskip bs = (s, 0)) :
    1 ≤ s ∧ s ≤ bs.length ∧ bs.take s = one (fieldOf bs) ∧ fit (fieldOf bs) = true ∧ (fieldOf bs).wf ∧ (fieldOf bs).b.length ≤ 16384 := by
  have hs : (tskip bs).1 = s := by rw [h]
  unfold tskip at h
  split at h
  · rename_i he; exact absurd (congrArg Prod.snd h) he
  rename_i he
  obtain ⟨hok, h1, hsl, h10, htk⟩ := ttake_back hb (Decidable.not_not.1 he)
  split at h
  · rename_i hx; exact absurd (congrArg Prod.snd h) hx
  rename_i hx
  obtain ⟨num, wire, size, err, hT⟩ : ∃ a b c d, ttake bs = ⟨a, b, c, d⟩ := ⟨_, _, _, _, rfl⟩
  obtain ⟨x, k, ex, hX⟩ : ∃ x k e, take (bs.drop (ttake bs).size) = (x, k, e) := ⟨_, _, _, rfl⟩
  rw [hX, hT] at h
  rw [hX] at hx
  rw [hT] at hok h1 hsl h10 htk
  simp only [] at h hx hok h1 hsl h10 htk
  rw [hT] at hX
  simp only [] at hX
  obtain rfl : ex = 0 := Decidable.not_not.1 hx
  have hbd : ∀ c ∈ bs.drop size, c < 256 := fun c hc => hb c (List.mem_of_mem_drop hc)
  obtain ⟨x1, x2, x3, x4⟩ := take_back _ x k hbd hX
  rw [List.length_drop] at x3
  by_cases hw : wire = 0
  · subst hw
    rw [if_pos rfl] at h
    obtain rfl : size + k = s := congrArg Prod.fst h
    have hf : fieldOf bs = ⟨num, 0, x, []⟩ := by
      unfold fieldOf
      rw [hT]
      simp only [if_true]
      rw [hX]
    rw [hf]
    refine ⟨by omega, by omega, ?_, fit_iff.2 ⟨hok, fun _ => rfl, fun h => by cases h⟩, ⟨x1, by simp⟩, by simp⟩
    rw [List.take_add, htk, x4]
    rfl
  · rw [if_neg hw] at h
    split at h
    · cases h
    rename_i hx4
    split at h
    · cases h
    rename_i hxl
    obtain rfl : size + k + x = s := congrArg Prod.fst h
    have hw2 : (wire : Int) = 2 := by have := (okTag_iff.1 hok).2.2; omega
    have hf : fieldOf bs = ⟨num, wire, 0, (bs.drop (size + k)).take x⟩ := by
      unfold fieldOf
      rw [hs, hT]
      rw [if_neg hw]
      simp only []
      rw [hX]
      simp only [Fel.mk.injEq, true_and]
      rw [List.drop_take]
      congr 1
      omega
    have hlen : ((bs.drop (size + k)).take x).length = x := by rw [List.length_take, List.length_drop]; omega
    rw [hf]
    refine ⟨by omega, by omega, ?_, fit_iff.2 ⟨hok, fun h => absurd h (by simp only; omega), fun _ => rfl⟩, ⟨by simp, fun c hc => hb c (List.mem_of_mem_drop (List.mem_of_mem_take hc))⟩, by simp only; omega⟩
    rw [Nat.add_assoc, List.take_add, htk, List.take_add, x4, List.drop_drop]
    unfold one
    simp only []
    rw [if_neg (show ¬ (wire : Int) = 0 by omega), hlen]

/-- Bytes that are taken as a row are those that it is laid down as. -/
theorem takeGo_back : ∀ (k : Nat) (p : Option Fel) (bs : List Nat) (l : List Fel), (∀ c ∈ bs, c < 256) → bs.length ≤ k → takeGo k p bs = (l, 0) → flat l = bs ∧ mayGo p l = 0 ∧ ∀ f ∈ l, f.wf
  | 0, p, bs, l, _, hk, h => by
    obtain rfl : bs = [] := List.eq_nil_of_length_eq_zero (by omega)
    obtain rfl : [] = l := congrArg Prod.fst h
    exact ⟨rfl, rfl, by simp⟩
  | k + 1, p, [], l, _, _, h => by
    obtain rfl : [] = l := congrArg Prod.fst h
    exact ⟨rfl, rfl, by simp⟩
  | k + 1, p, c :: bs, l, hb, hk, h => by
    unfold takeGo at h
    split at h
    · rename_i he; exact absurd (congrArg Prod.snd h) he
    rename_i he
    obtain ⟨s, hs⟩ : ∃ s, tskip (c :: bs) = (s, 0) := ⟨_, Prod.ext rfl (Decidable.not_not.1 he)⟩
    obtain ⟨h1, h2, h3, h4, h5, h6⟩ := fieldOf_back hb hs
    split at h
    · cases h
    rename_i hp
    split at h
    · rename_i hr; exact absurd (congrArg Prod.snd h) hr
    rename_i hr
    rw [hs] at h hr
    obtain ⟨r, hg⟩ : ∃ r, takeGo k (some (fieldOf (c :: bs))) ((c :: bs).drop s) = (r, 0) := ⟨_, Prod.ext rfl (Decidable.not_not.1 hr)⟩
    simp only [] at h
    rw [hg] at h
    obtain rfl : fieldOf (c :: bs) :: r = l := congrArg Prod.fst h
    obtain ⟨i1, i2, i3⟩ := takeGo_back k _ _ r (fun d hd => hb d (List.mem_of_mem_drop hd)) (by rw [List.length_drop]; simp only [List.length_cons] at hk h2 ⊢; omega) hg
    refine ⟨by rw [flat_cons, i1, ← h3, List.take_append_drop], ?_, fun f hf => ?_⟩
    · unfold mayGo
      rw [if_neg (by rw [h4]; decide), if_neg hp, if_neg (by omega)]
      exact i2
    · rcases List.mem_cons.1 hf with rfl | hf
      · exact h5
      · exact i3 f hf

theorem takeGo_no : ∀ (k : Nat) (p : Option Fel) (bs : List Nat), (takeGo k p bs).2 ≠ 0 → (takeGo k p bs).1 = []
  | 0, _, _, h => absurd rfl h
  | _ + 1, _, [], h => absurd rfl h
  | k + 1, p, c :: bs, h => by
    unfold takeGo at h ⊢
    split
    · rfl
    split
    · rfl
    split
    · rfl
    · rename_i h1 h2 h3
      rw [if_neg h1, if_neg h2, if_neg h3] at h
      exact absurd rfl h

theorem takeRow_back {bs : List Nat} {l : List Fel} (hb : ∀ c ∈ bs, c < 256) (h : takeRow bs = (l, 0)) : putRow l = (bs, 0) ∧ may l = 0 ∧ bs.length ≤ 16384 ∧ ∀ f ∈ l, f.wf := by
  unfold takeRow at h
  split at h
  · cases h
  rename_i h1
  obtain ⟨h2, h3, h4⟩ := takeGo_back _ _ _ _ hb (Nat.le_refl _) h
  have hm : may l = 0 := by unfold may; rw [h3, h2]; simp only [ne_eq, not_true, if_false]; rw [if_neg h1]
  exact ⟨by unfold putRow; rw [if_neg (by omega), h2], hm, by omega, h4⟩
end Go.Proofs.Ytmcbifdfpaooaaa.Tl
