/-
  Plain facts on a row of chunks: 1 to 64, rising, one to eight of them.
-/
namespace Go.Proofs.Ytdkjdiamekfbdaa.Cm

def inR (x a b : Int) : Bool := decide (a ≤ x) && decide (x ≤ b)
theorem inR_iff {x a b : Int} : inR x a b = true ↔ a ≤ x ∧ x ≤ b := by simp [inR]
/-- The number ahead of the j-th. -/
def aheadI (l : List Int) (j : Nat) : Option Int := if j = 0 then none else l[j - 1]?
def bad (p : Option Int) (x : Int) : Bool := !inR x 1 64 || p.any (fun y => decide (x ≤ y))
def rowGo : Option Int → List Int → Bool
  | _, [] => true
  | p, x :: l => if bad p x then false else rowGo (some x) l
def row (l : List Int) : Bool := rowGo none l && (decide (1 ≤ l.length) && decide (l.length ≤ 8))
theorem rowGo_step {l : List Int} {j : Nat} {x : Int} (h : l[j]? = some x) (p : Option Int) : rowGo p (l.drop j) = if bad p x then false else rowGo (some x) (l.drop (j + 1)) := by
  have hlt := (List.getElem?_eq_some_iff.1 h).1
  rw [List.drop_eq_getElem_cons hlt]
  have e : l[j] = x := by rw [List.getElem?_eq_getElem hlt] at h; exact Option.some.inj h
  rw [e, rowGo]
theorem rowGo_mem : ∀ {l : List Int} {p : Option Int}, rowGo p l = true → ∀ x ∈ l, 1 ≤ x ∧ x ≤ 64
  | [], _, _, x, hx => by simp at hx
  | y :: l, p, h, x, hx => by
    unfold rowGo at h
    split at h
    · cases h
    rename_i hb
    rcases List.mem_cons.1 hx with rfl | hx
    · have : inR x 1 64 = true := by
        cases hi : inR x 1 64 with
        | true => rfl
        | false => exfalso; apply hb; unfold bad; rw [hi]; rfl
      exact inR_iff.1 this
    · exact rowGo_mem h x hx
theorem row_mem {l : List Int} (h : row l = true) : (∀ x ∈ l, 1 ≤ x ∧ x ≤ 64) ∧ 1 ≤ l.length ∧ l.length ≤ 8 := by
  unfold row at h
  simp only [Bool.and_eq_true, decide_eq_true_eq] at h
  exact ⟨rowGo_mem h.1, h.2⟩
theorem row_nil : row [] = false := rfl
end Go.Proofs.Ytdkjdiamekfbdaa.Cm
