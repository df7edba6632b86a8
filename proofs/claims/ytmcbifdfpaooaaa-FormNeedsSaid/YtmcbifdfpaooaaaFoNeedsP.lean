/-
  Plain facts for the law FormNeeds: the four rows of fields that it makes of a record's specs, and what is told of them.
-/
import Derived.Test.YtmcbifdfpaooaaaFoPlain
namespace Go.Proofs.Ytmcbifdfpaooaaa.Fo
open Go.Proofs.Ytmcbifdfpaooaaa.Tl (Fel may)

/-- A field that is there; one that is none. -/
def fullF (s : Spc) : Fel := if s.wire = 2 then ⟨s.num, s.wire, 0, [1]⟩ else ⟨s.num, s.wire, 7, []⟩
def noneF (s : Spc) : Fel := ⟨s.num, s.wire, 0, []⟩
/-- A row made spec by spec, by the spec and its place. -/
def rowOf (g : Nat → Spc → List Fel) : Nat → List Spc → List Fel
  | _, [] => []
  | i, s :: l => g i s ++ rowOf g (i + 1) l
theorem rowOf_app (g : Nat → Spc → List Fel) : ∀ (l m : List Spc) (i : Nat), rowOf g i (l ++ m) = rowOf g i l ++ rowOf g (i + l.length) m
  | [], m, i => by simp [rowOf]
  | s :: l, m, i => by
    rw [List.cons_append, rowOf, rowOf, rowOf_app g l m (i + 1), List.append_assoc, List.length_cons]
    congr 3
    omega
theorem rowOf_snoc (g : Nat → Spc → List Fel) {l : List Spc} {j : Nat} {s : Spc} (h : l[j]? = some s) : rowOf g 0 (l.take (j + 1)) = rowOf g 0 (l.take j) ++ g j s := by
  have hlt := (List.getElem?_eq_some_iff.1 h).1
  rw [List.take_add_one, h, rowOf_app]
  simp only [Option.toList_some, rowOf, List.append_nil, List.length_take, Nat.zero_add]
  rw [Nat.min_eq_left (Nat.le_of_lt hlt)]
def gWhole (_ : Nat) (s : Spc) : List Fel := [fullF s]
def gTwice (at_ i : Nat) (s : Spc) : List Fel := if i = at_ then [fullF s, fullF s] else [fullF s]
def gNone (at_ i : Nat) (s : Spc) : List Fel := if i = at_ then [noneF s] else [fullF s]
def gLess (at_ i : Nat) (s : Spc) : List Fel := if i = at_ then [] else [fullF s]

def goodN (k v : Int) (at_ : Nat) : Bool :=
  match (specs k v)[at_]? with
  | none => true
  | some s =>
    decide (check k v (rowOf gWhole 0 (specs k v)) = 0) && (decide (check k v (rowOf (gLess at_) 0 (specs k v)) = 0) == !s.need) && decide (check k v (rowOf (gNone at_) 0 (specs k v)) = 6) &&
      (decide (s.wire = 0) && decide (check k v (rowOf (gTwice at_) 0 (specs k v)) = 5) || decide (s.wire = 2) && (decide (check k v (rowOf (gTwice at_) 0 (specs k v)) = 0) == s.many))
theorem goodN_all : ∀ k : Nat, k < 7 → ∀ v : Nat, v < 3 → ∀ at_ : Nat, at_ < 10 → goodN (1 + (k : Int)) (1 + (v : Int)) at_ = true := by decide +kernel
theorem goodN_at {k v : Int} (hk : 1 ≤ k ∧ k ≤ 7) (hv : 1 ≤ v ∧ v ≤ 3) {at_ : Nat} {s : Spc} (hs : (specs k v)[at_]? = some s) :
    check k v (rowOf gWhole 0 (specs k v)) = 0 ∧ decide (check k v (rowOf (gLess at_) 0 (specs k v)) = 0) = !s.need ∧ check k v (rowOf (gNone at_) 0 (specs k v)) = 6 ∧
      (s.wire = 0 ∧ check k v (rowOf (gTwice at_) 0 (specs k v)) = 5 ∨ s.wire = 2 ∧ decide (check k v (rowOf (gTwice at_) 0 (specs k v)) = 0) = s.many) := by
  have hi : at_ < 10 := by
    have := (List.getElem?_eq_some_iff.1 hs).1
    have := specs_len k v
    omega
  have h := goodN_all (k - 1).toNat (by omega) (v - 1).toNat (by omega) at_ hi
  rw [show (1 : Int) + ((k - 1).toNat : Int) = k by omega, show (1 : Int) + ((v - 1).toNat : Int) = v by omega] at h
  unfold goodN at h
  rw [hs] at h
  simp only [Bool.and_eq_true, Bool.or_eq_true, decide_eq_true_eq, beq_iff_eq] at h
  obtain ⟨⟨⟨h1, h2⟩, h3⟩, h4⟩ := h
  exact ⟨h1, h2, h3, h4⟩
end Go.Proofs.Ytmcbifdfpaooaaa.Fo
