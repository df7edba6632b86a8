/-
  The document's layer 6 on lists: how often chunks are used.
-/
import Derived.Lib.Walk
namespace Go.Proofs.Ytdkjdiamekfbdaa
namespace Rf

structure Snp where
  id : Int
  set : Int
  chunks : List Int
  held : Bool
  tag : List Nat
deriving DecidableEq

/-- How often snapshots have a chunk. -/
def cnt (l : List Snp) (c : Int) : Nat := (l.map fun s => s.chunks.count c).sum
/-- How many chunks they have. -/
def many (l : List Snp) : Nat := (l.map fun s => s.chunks.length).sum
def has (l : List Snp) (i : Nat) : Bool := decide (0 < cnt l ((i : Int) + 1))
def counts (l : List Snp) : List Int := 0 :: (List.range 64).map fun i : Nat => (cnt l ((i : Int) + 1) : Int)
def distinctN (l : List Snp) (n : Nat) : Nat := (List.range n).countP fun i => has l i
def distinct (l : List Snp) : Nat := distinctN l 64
def without (l : List Snp) (id : Int) : List Snp := l.filter fun s => s.id != id
def freedN (l : List Snp) (id : Int) (n : Nat) : List Int := ((List.range n).filter fun i => has l i && !has (without l id) i).map fun i : Nat => (i : Int) + 1
def freed (l : List Snp) (id : Int) : List Int := freedN l id 64
def one (ch : List Int) : Snp := ⟨0, 0, ch, false, []⟩
def withC (l : List Snp) (ch : List Int) : Nat := distinct (l ++ [one ch])

theorem cnt_nil (c : Int) : cnt [] c = 0 := rfl
theorem cnt_app (l m : List Snp) (c : Int) : cnt (l ++ m) c = cnt l c + cnt m c := by simp [cnt, List.sum_append]
theorem cnt_one (s : Snp) (c : Int) : cnt [s] c = s.chunks.count c := by simp [cnt]
theorem cnt_cons (s : Snp) (l : List Snp) (c : Int) : cnt (s :: l) c = s.chunks.count c + cnt l c := by simp [cnt]
theorem many_app (l m : List Snp) : many (l ++ m) = many l + many m := by simp [many, List.sum_append]
theorem many_cons (s : Snp) (l : List Snp) : many (s :: l) = s.chunks.length + many l := by simp [many]
theorem many_one (s : Snp) : many [s] = s.chunks.length := by simp [many]
theorem cnt_le : ∀ (l : List Snp) (c : Int), cnt l c ≤ many l
  | [], _ => by simp [cnt, many]
  | s :: l, c => by
    rw [cnt_cons, many_cons]
    have := cnt_le l c
    have := List.count_le_length (a := c) (l := s.chunks)
    omega
theorem cnt_take {l : List Snp} {j : Nat} {s : Snp} (h : l[j]? = some s) (c : Int) : cnt (l.take (j + 1)) c = cnt (l.take j) c + s.chunks.count c := by
  rw [List.take_add_one, h, cnt_app]
  simp [cnt_one]
theorem many_take (l : List Snp) (j : Nat) : many (l.take j) ≤ many l := by
  conv => rhs; rw [← List.take_append_drop j l, many_app]
  omega
theorem many_mem : ∀ {l : List Snp} {j : Nat} {s : Snp}, l[j]? = some s → many (l.take j) + s.chunks.length ≤ many l := by
  intro l j s h
  have := many_take l (j + 1)
  rw [List.take_add_one, h, many_app] at this
  simpa [many_one] using this
theorem count_take {l : List Int} {k : Nat} {x : Int} (h : l[k]? = some x) (c : Int) : (l.take (k + 1)).count c = (l.take k).count c + if x = c then 1 else 0 := by
  rw [List.take_add_one, h, List.count_append]
  simp [List.count_cons]
theorem many_without (l : List Snp) (id : Int) : many (without l id) ≤ many l := by
  unfold without
  induction l with
  | nil => simp
  | cons s l ih =>
    rw [List.filter_cons]
    split
    · rw [many_cons, many_cons]; omega
    · rw [many_cons]; omega
theorem without_take {l : List Snp} {j : Nat} {s : Snp} (h : l[j]? = some s) (id : Int) : without (l.take (j + 1)) id = without (l.take j) id ++ if s.id = id then [] else [s] := by
  unfold without
  rw [List.take_add_one, h, List.filter_append]
  by_cases e : s.id = id <;> simp [e]
theorem without_len (l : List Snp) (id : Int) : (without l id).length ≤ l.length := List.length_filter_le _ _
theorem distinctN_succ (l : List Snp) (n : Nat) : distinctN l (n + 1) = distinctN l n + if has l n then 1 else 0 := by
  unfold distinctN
  rw [List.range_succ, List.countP_append]
  simp [List.countP_cons]
theorem distinctN_le (l : List Snp) (n : Nat) : distinctN l n ≤ n := by
  unfold distinctN
  have := List.countP_le_length (p := fun i => has l i) (l := List.range n)
  simpa using this
theorem freedN_succ (l : List Snp) (id : Int) (n : Nat) : freedN l id (n + 1) = freedN l id n ++ if has l n && !has (without l id) n then [(n : Int) + 1] else [] := by
  unfold freedN
  rw [List.range_succ, List.filter_append, List.map_append]
  cases h : has l n && !has (without l id) n <;> simp [h]
theorem freedN_len (l : List Snp) (id : Int) (n : Nat) : (freedN l id n).length ≤ n := by
  unfold freedN
  rw [List.length_map]
  exact Nat.le_trans (List.length_filter_le _ _) (by simp)
/-- The first numbers of counts. -/
def countsN (l : List Snp) (n : Nat) : List Int := 0 :: (List.range n).map fun i : Nat => (cnt l ((i : Int) + 1) : Int)
theorem countsN_succ (l : List Snp) (n : Nat) : countsN l (n + 1) = countsN l n ++ [(cnt l ((n : Int) + 1) : Int)] := by
  unfold countsN
  rw [List.range_succ, List.map_append]
  rfl
theorem countsN_len (l : List Snp) (n : Nat) : (countsN l n).length = n + 1 := by simp [countsN]
theorem counts_eq (l : List Snp) : counts l = countsN l 64 := rfl
theorem counts_len (l : List Snp) : (counts l).length = 65 := countsN_len l 64
theorem counts_get (l : List Snp) {c : Nat} (h1 : 1 ≤ c) (h2 : c < 65) : (counts l)[c]? = some (cnt l c : Int) := by
  obtain ⟨d, rfl⟩ : ∃ d, c = d + 1 := ⟨c - 1, by omega⟩
  have : d < 64 := by omega
  simp [counts, this]
theorem counts_zero (l : List Snp) : (counts l)[0]? = some 0 := rfl
end Rf
end Go.Proofs.Ytdkjdiamekfbdaa
