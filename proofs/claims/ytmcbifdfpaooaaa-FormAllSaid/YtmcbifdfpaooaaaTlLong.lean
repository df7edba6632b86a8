/-
  Plain facts on rows of fields: how many bytes; one field and two.
-/
import Derived.Test.YtmcbifdfpaooaaaTlMore
namespace Go.Proofs.Ytmcbifdfpaooaaa.Tl
open Go.Proofs.Ytmcbifdfpaooaaa.Vi (put take put_len put_byte take_put take_put0 take_back take_cut take_err put_inj)
open Go.Proofs.Ytmcbifdfpaooaaa.Tg

/-- The bytes of a field, counted. -/
def size1 (f : Fel) : Nat := (if 16 ≤ f.num then 1 else 0) + if f.wire = 0 then 1 + (put f.n).length else 1 + (put f.b.length).length + f.b.length
def size (l : List Fel) : Nat := (l.map size1).sum

theorem one_size {f : Fel} (h : fit f = true) : (one f).length = size1 f := by
  have h1 := (fit_iff.1 h).1
  have h2 := tput_len h1
  unfold one size1
  rw [List.length_append, h2]
  by_cases hw : f.wire = 0
  · rw [if_pos hw, if_pos hw]
    split <;> split <;> omega
  · rw [if_neg hw, if_neg hw, List.length_append]
    split <;> split <;> omega
theorem mayGo_fit : ∀ {l : List Fel} {p : Option Fel}, mayGo p l = 0 → ∀ f ∈ l, fit f = true ∧ f.b.length ≤ 16384
  | [], _, _, _, hf => by cases hf
  | g :: l, p, h, f, hf => by
    obtain ⟨h1, _, h3, h4⟩ := mayGo_cons.1 h
    rcases List.mem_cons.1 hf with rfl | hf
    · exact ⟨h1, h3⟩
    · exact mayGo_fit h4 f hf
theorem flat_size : ∀ (l : List Fel), (∀ f ∈ l, fit f = true) → (flat l).length = size l
  | [], _ => rfl
  | f :: l, h => by
    rw [flat_cons, List.length_append, one_size (h f (by simp)), flat_size l (fun g hg => h g (by simp [hg]))]
    simp [size]
theorem mayGo_err : ∀ (l : List Fel) (p : Option Fel), mayGo p l = 0 ∨ mayGo p l = 1 ∨ mayGo p l = 5 ∨ mayGo p l = 4
  | [], _ => .inl rfl
  | f :: l, p => by
    unfold mayGo
    split
    · simp
    split
    · simp
    split
    · simp
    · exact mayGo_err l (some f)
theorem may_err (l : List Fel) : may l = 0 ∨ may l = 1 ∨ may l = 5 ∨ may l = 4 := by
  unfold may
  split
  · exact mayGo_err l none
  · split <;> simp
theorem may_long {l : List Fel} (h : may l = 0) : (flat l).length = size l ∧ size l ≤ 16384 := by
  obtain ⟨h1, h2⟩ := may_zero.1 h
  have h3 := flat_size l (fun f hf => (mayGo_fit h1 f hf).1)
  omega
theorem may_big {l : List Fel} (h : may l = 4) : 16384 < size l ∨ 1 < l.length := by
  by_cases hl : 1 < l.length
  · exact .inr hl
  left
  match l, hl with
  | [], _ => simp [may, mayGo, flat] at h
  | [f], _ =>
    by_cases hf : fit f = true
    · have h3 := flat_size [f] (by simp [hf])
      unfold may at h
      split at h
      · rename_i h1
        unfold mayGo at h
        rw [if_neg (by rw [hf]; decide), if_neg (by simp)] at h
        split at h
        · rename_i h2
          have hw : f.wire ≠ 0 := by
            intro h0
            have := (fit_iff.1 hf).2.1 h0
            rw [this] at h2
            simp at h2
          simp only [size, size1, List.map_cons, List.map_nil, List.sum_cons, List.sum_nil]
          rw [if_neg hw]
          omega
        · simp [mayGo] at h
      · split at h
        · omega
        · cases h
    · have : mayGo none [f] = 1 := by unfold mayGo; rw [if_pos (by simpa using hf)]
      unfold may at h
      rw [this] at h
      simp at h
  | _ :: _ :: _, hl => simp at hl

theorem size1_le {f : Fel} (hb : f.b.length ≤ 300) : size1 f ≤ 312 := by
  have h1 := put_len f.n
  have h2 := put_len f.b.length
  unfold size1
  split <;> split <;> omega
theorem may_one {x : Fel} (hb : x.b.length ≤ 300) : may [x] = if fit x then 0 else 1 := by
  by_cases hf : fit x = true
  · rw [if_pos hf]
    refine may_zero.2 ⟨mayGo_cons.2 ⟨hf, rfl, by omega, rfl⟩, ?_⟩
    rw [flat_size [x] (by simp [hf])]
    have := size1_le hb
    simp [size]; omega
  · rw [if_neg hf]
    have : mayGo none [x] = 1 := by unfold mayGo; rw [if_pos (by simpa using hf)]
    unfold may
    rw [this]
    simp
theorem may_two {x y : Fel} (hx : x.b.length ≤ 300) (hy : y.b.length ≤ 300) : may [x, y] = if fit x && fit y then (if falls x y then 5 else 0) else 1 := by
  by_cases hf : fit x = true
  · by_cases hg : fit y = true
    · rw [if_pos (by rw [hf, hg]; rfl)]
      by_cases hr : falls x y = true
      · rw [if_pos hr]
        have : mayGo none [x, y] = 5 := by
          rw [mayGo, if_neg (by rw [hf]; decide), if_neg (by simp), if_neg (by omega), mayGo, if_neg (by rw [hg]; decide), if_pos (by simpa using hr)]
        unfold may
        rw [this]
        simp
      · rw [if_neg hr]
        refine may_zero.2 ⟨mayGo_cons.2 ⟨hf, rfl, by omega, mayGo_cons.2 ⟨hg, by simpa using hr, by omega, rfl⟩⟩, ?_⟩
        rw [flat_size [x, y] (by simp [hf, hg])]
        have := size1_le hx
        have := size1_le hy
        simp [size]; omega
    · have hg' : fit y = false := by simpa using hg
      rw [if_neg (by rw [hg']; simp)]
      have : mayGo none [x, y] = 1 := by
        rw [mayGo, if_neg (by rw [hf]; decide), if_neg (by simp), if_neg (by omega), mayGo, if_pos hg']
      unfold may
      rw [this]
      simp
  · have hf' : fit x = false := by simpa using hf
    rw [if_neg (by rw [hf']; simp)]
    have : mayGo none [x, y] = 1 := by rw [mayGo, if_pos hf']
    unfold may
    rw [this]
    simp
end Go.Proofs.Ytmcbifdfpaooaaa.Tl
