/-
  Plain facts on rows of numbers as the landed command goes along them, and on spans.
-/
import Derived.Test.YtdkjdiamekfbdaaCmRowP
namespace Go.Proofs.Ytdkjdiamekfbdaa.Cm

def chunksB (l : List Int) : List Nat × Nat := if row l then (l.map Int.toNat, 0) else ([], 1)
/-- Rising, from a number ahead on. -/
def riseGo : Int → List Int → Bool
  | _, [] => true
  | p, x :: l => (decide (p < x) && decide (x ≤ 64)) && riseGo x l
theorem riseGo_step {l : List Int} {j : Nat} {x : Int} (h : l[j]? = some x) (p : Int) : riseGo p (l.drop j) = ((decide (p < x) && decide (x ≤ 64)) && riseGo x (l.drop (j + 1))) := by
  have hlt := (List.getElem?_eq_some_iff.1 h).1
  rw [List.drop_eq_getElem_cons hlt]
  have e : l[j] = x := by rw [List.getElem?_eq_getElem hlt] at h; exact Option.some.inj h
  rw [e, riseGo]
theorem rise_some : ∀ {l : List Int} {p : Int}, 0 ≤ p → rowGo (some p) l = riseGo p l
  | [], _, _ => rfl
  | x :: l, p, hp => by
    rw [rowGo, riseGo]
    by_cases h : p < x ∧ x ≤ 64
    · rw [if_neg (by unfold bad inR; simp; omega), decide_eq_true h.1, decide_eq_true h.2, rise_some (by omega)]; rfl
    · rw [if_pos (by unfold bad inR; simp; omega), show (decide (p < x) && decide (x ≤ 64)) = false by simp; omega]; rfl
theorem rise_none (l : List Int) : rowGo none l = riseGo 0 l := by
  cases l with
  | nil => rfl
  | cons x l =>
    rw [rowGo, riseGo]
    by_cases h : 0 < x ∧ x ≤ 64
    · rw [if_neg (by unfold bad inR; simp; omega), decide_eq_true h.1, decide_eq_true h.2, rise_some (by omega)]; rfl
    · rw [if_pos (by unfold bad inR; simp; omega), show (decide (0 < x) && decide (x ≤ 64)) = false by simp; omega]; rfl
theorem row_rise (l : List Int) : row l = (inR (l.length : Int) 1 8 && riseGo 0 l) := by
  unfold row inR
  rw [rise_none, Bool.and_comm]
  congr 1
  rw [Bool.eq_iff_iff]; simp; omega

structure Span where
  a : Int
  b : Int
def Span.holds (s : Span) (x : Int) : Bool := inR x s.a s.b
end Go.Proofs.Ytdkjdiamekfbdaa.Cm
