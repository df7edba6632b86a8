/-
  Plain facts on records' fields, by versions.
-/
import Derived.Test.YtmcbifdfpaooaaaTlLong
namespace Go.Proofs.Ytmcbifdfpaooaaa.Fo
open Go.Proofs.Ytmcbifdfpaooaaa.Tl (Fel may)

structure Spc where
  num : Int
  wire : Int
  since : Int
  need : Bool
  many : Bool
deriving DecidableEq
def numS (n s : Int) (nd : Bool) : Spc := ⟨n, 0, s, nd, false⟩
def bytS (n s : Int) (nd m : Bool) : Spc := ⟨n, 2, s, nd, m⟩
def specAll (k : Int) : List Spc :=
  if k = 1 then [numS 1 1 true, numS 2 1 false, numS 3 1 false, numS 4 1 false, numS 5 1 false, numS 6 1 false, bytS 7 1 false false, bytS 8 3 false false]
  else if k = 2 then [numS 1 1 true, numS 2 1 true, bytS 3 1 true false, numS 4 2 false, bytS 5 3 false false]
  else if k = 3 then [numS 1 1 true, numS 2 1 true]
  else if k = 4 then [numS 1 1 true, numS 2 1 false, numS 3 1 false, numS 4 1 false]
  else if k = 5 then [numS 1 1 true, numS 2 1 true, numS 3 1 false, bytS 4 1 false true, bytS 5 1 false true, bytS 6 1 false true, numS 7 3 false]
  else if k = 6 then [numS 1 1 true, numS 2 1 true, numS 3 1 true, numS 4 1 true, numS 5 1 false, numS 6 1 false, numS 7 1 false, numS 8 1 false, numS 9 1 false, bytS 10 1 false true]
  else if k = 7 then [numS 1 1 true, bytS 2 1 false false]
  else []
def inv (v : Int) (s : Spc) : Bool := decide (1 ≤ v) && decide (v ≤ 3) && decide (s.since ≤ v)
def specs (k v : Int) : List Spc := (specAll k).filter (inv v)
def top (k v : Int) : Int := (specs k v).foldl (fun t s => max t s.num) 0

def okField (s : Spc) (f : Fel) : Bool := decide (f.num ≠ s.num) || (decide (f.wire = s.wire) && !(decide (f.wire = 0) && decide (f.n = 0)) && !(decide (f.wire = 2) && decide (f.b.length = 0)))
def cnt (s : Spc) (l : List Fel) : Nat := (l.filter fun f => decide (f.num = s.num)).length
def okSpec (s : Spc) (l : List Fel) : Bool := l.all (okField s) && !(decide (1 < cnt s l) && !s.many) && !(decide (cnt s l = 0) && s.need)
def check (k v : Int) (l : List Fel) : Nat := if specs k v = [] then 1 else if may l ≠ 0 then may l else if (specs k v).all (okSpec · l) then 0 else 6

theorem specAll_len (k : Int) : (specAll k).length ≤ 10 := by
  unfold specAll
  repeat' split
  all_goals simp
theorem specs_len (k v : Int) : (specs k v).length ≤ 10 := Nat.le_trans (List.length_filter_le _ _) (specAll_len k)
theorem specAll_mem (k : Int) : ∀ s ∈ specAll k, 1 ≤ s.num ∧ s.num ≤ 10 ∧ (s.wire = 0 ∨ s.wire = 2) ∧ 1 ≤ s.since ∧ s.since ≤ 3 := by
  intro s hs
  unfold specAll at hs
  repeat' split at hs
  all_goals (simp [numS, bytS] at hs)
  all_goals (first | (rcases hs with rfl | rfl | rfl | rfl | rfl | rfl | rfl | rfl | rfl | rfl <;> simp) | (rcases hs with rfl | rfl | rfl | rfl | rfl | rfl | rfl | rfl <;> simp) | (rcases hs with rfl | rfl | rfl | rfl | rfl | rfl | rfl <;> simp) | (rcases hs with rfl | rfl | rfl | rfl | rfl <;> simp) | (rcases hs with rfl | rfl | rfl | rfl <;> simp) | (rcases hs with rfl | rfl <;> simp) | exact hs.elim)
theorem specs_mem {k v : Int} {s : Spc} (h : s ∈ specs k v) : (1 ≤ s.num ∧ s.num ≤ 10 ∧ (s.wire = 0 ∨ s.wire = 2) ∧ 1 ≤ s.since ∧ s.since ≤ 3) := specAll_mem k s (List.mem_filter.1 h).1
end Go.Proofs.Ytmcbifdfpaooaaa.Fo
