/-
  Plain facts for the law RefsBounds.
-/
import Derived.Test.YtcbfcjpmoechlaaRfAddsP
set_option linter.unusedVariables false
set_option linter.unusedSimpArgs false
namespace Go.Proofs.Ytcbfcjpmoechlaa
namespace Rf

def okTo (n : Nat) (x : Int) : Bool := decide (1 ≤ x) && decide (x ≤ (n : Int))
def haveTo (l : List Snp) (n : Nat) : Nat := (l.map fun s => s.chunks.countP (okTo n)).sum
def haveC (l : List Snp) : Nat := haveTo l 64
def sumN (l : List Snp) : Nat → Nat
  | 0 => 0
  | n + 1 => sumN l n + cnt l ((n : Int) + 1)
theorem countP_to (ch : List Int) (n : Nat) : ch.countP (okTo (n + 1)) = ch.countP (okTo n) + ch.count ((n : Int) + 1) := by
  induction ch with
  | nil => simp
  | cons x ch ih =>
    rw [List.countP_cons, List.countP_cons, List.count_cons, ih]
    by_cases h : x = (n : Int) + 1
    · have h1 : okTo (n + 1) x = true := by simp [okTo]; omega
      have h2 : okTo n x = false := by simp [okTo]; omega
      rw [h1, h2, if_pos rfl, if_neg (by decide), if_pos (by rw [h]; simp)]; omega
    · have h1 : okTo (n + 1) x = okTo n x := by
        simp only [okTo]
        rw [Bool.eq_iff_iff]
        simp only [Bool.and_eq_true, decide_eq_true_eq]
        omega
      rw [h1, if_neg (show ¬ (x == (n : Int) + 1) = true by simpa using h)]; omega
theorem haveTo_cons (s : Snp) (l : List Snp) (n : Nat) : haveTo (s :: l) n = s.chunks.countP (okTo n) + haveTo l n := by simp [haveTo]
theorem haveTo_succ (l : List Snp) (n : Nat) : haveTo l (n + 1) = haveTo l n + cnt l ((n : Int) + 1) := by
  induction l with
  | nil => simp [haveTo, cnt]
  | cons s l ih =>
    rw [haveTo_cons, haveTo_cons, cnt_cons, ih, countP_to]
    omega
theorem haveTo_zero (l : List Snp) : haveTo l 0 = 0 := by
  induction l with
  | nil => rfl
  | cons s l ih =>
    rw [haveTo_cons, ih, List.countP_eq_zero.2]
    intro x _
    simp [okTo]; omega
theorem sumN_have (l : List Snp) : ∀ n, sumN l n = haveTo l n
  | 0 => (haveTo_zero l).symm
  | n + 1 => by rw [sumN, sumN_have l n, haveTo_succ]
theorem distinctN_have (l : List Snp) : ∀ n, distinctN l n ≤ haveTo l n
  | 0 => by simp [distinctN]
  | n + 1 => by
    have := distinctN_have l n
    rw [distinctN_succ, haveTo_succ]
    by_cases h : 0 < cnt l ((n : Int) + 1)
    · simp [has, h]; omega
    · simp [has, h]; omega
theorem haveTo_le : ∀ (l : List Snp) (n : Nat), haveTo l n ≤ many l
  | [], _ => by simp [haveTo, many]
  | s :: l, n => by
    rw [haveTo_cons, many_cons]
    have := haveTo_le l n
    have := List.countP_le_length (p := okTo n) (l := s.chunks)
    omega
theorem have_take {l : List Snp} {j : Nat} {s : Snp} (h : l[j]? = some s) (n : Nat) : haveTo (l.take (j + 1)) n = haveTo (l.take j) n + s.chunks.countP (okTo n) := by
  rw [List.take_add_one, h]
  simp [haveTo, List.sum_append]
theorem okc_take {l : List Int} {k : Nat} {x : Int} (h : l[k]? = some x) (n : Nat) : (l.take (k + 1)).countP (okTo n) = (l.take k).countP (okTo n) + if okTo n x then 1 else 0 := by
  rw [List.take_add_one, h, List.countP_append]
  simp [List.countP_cons]

/-- The first five chunks, at most, that have no count. -/
def freeN (l : List Snp) : Nat → List Int
  | 0 => []
  | n + 1 => if cnt l ((n : Int) + 1) = 0 ∧ (freeN l n).length < 5 then freeN l n ++ [(n : Int) + 1] else freeN l n
theorem freeN_len (l : List Snp) : ∀ n, (freeN l n).length ≤ 5 ∧ (freeN l n).length ≤ n
  | 0 => by simp [freeN]
  | n + 1 => by
    have := freeN_len l n
    rw [freeN]
    split
    · rw [List.length_append]; simp; omega
    · omega
theorem freeN_mem (l : List Snp) : ∀ n c, c ∈ freeN l n → cnt l c = 0 ∧ 1 ≤ c ∧ c ≤ (n : Int)
  | 0, c, h => by simp [freeN] at h
  | n + 1, c, h => by
    rw [freeN] at h
    split at h
    · rename_i hc
      rcases List.mem_append.1 h with h | h
      · have := freeN_mem l n c h
        omega
      · simp at h
        subst h
        exact ⟨hc.1, by omega, by omega⟩
    · have := freeN_mem l n c h
      omega
theorem freeN_nodup (l : List Snp) : ∀ n, (freeN l n).Nodup
  | 0 => by simp [freeN]
  | n + 1 => by
    rw [freeN]
    split
    · rw [List.nodup_append]
      refine ⟨freeN_nodup l n, by simp, fun a ha b hb => ?_⟩
      have := freeN_mem l n a ha
      simp at hb
      omega
    · exact freeN_nodup l n
theorem with_new {l : List Snp} {f : List Int} (hf : ∀ c ∈ f, cnt l c = 0 ∧ 1 ≤ c) (hn : f.Nodup) : ∀ n, distinctN (l ++ [one f]) n = distinctN l n + f.countP (okTo n)
  | 0 => by
    rw [List.countP_eq_zero.2]
    · simp [distinctN]
    · intro x _
      simp [okTo]; omega
  | n + 1 => by
    rw [distinctN_succ, distinctN_succ, with_new hf hn n, countP_to, has_app]
    have h1 : has [one f] n = decide (0 < f.count ((n : Int) + 1)) := by simp only [has, cnt_one, one]
    by_cases hm : ((n : Int) + 1) ∈ f
    · have h2 := (hf _ hm).1
      have h3 : f.count ((n : Int) + 1) = 1 := by
        have a := List.count_pos_iff.2 hm
        have b := List.nodup_iff_count.1 hn ((n : Int) + 1)
        omega
      have h4 : has l n = false := by simp [has, h2]
      rw [h1, h3, h4]
      simp; omega
    · have h3 : f.count ((n : Int) + 1) = 0 := List.count_eq_zero.2 hm
      rw [h1, h3]
      simp; omega
theorem with_free (l : List Snp) : withC l (freeN l 64) = distinct l + (freeN l 64).length := by
  unfold withC distinct
  rw [with_new (fun c hc => ⟨(freeN_mem l 64 c hc).1, (freeN_mem l 64 c hc).2.1⟩) (freeN_nodup l 64)]
  congr 1
  rw [List.countP_eq_length]
  intro c hc
  have := freeN_mem l 64 c hc
  simp [okTo]; omega
end Rf
end Go.Proofs.Ytcbfcjpmoechlaa
