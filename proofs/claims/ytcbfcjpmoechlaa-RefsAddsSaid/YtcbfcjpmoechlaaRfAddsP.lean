/-
  Plain facts for the law RefsAdds.
-/
import Derived.Test.YtcbfcjpmoechlaaRfFacts
set_option linter.unusedVariables false
set_option linter.unusedSimpArgs false
namespace Go.Proofs.Ytcbfcjpmoechlaa
namespace Rf

def cc (l : List Snp) (c : Nat) : Nat := if c = 0 then 0 else cnt l c
theorem counts_at (l : List Snp) {c : Nat} (h : c < 65) : (counts l)[c]? = some ((cc l c : Nat) : Int) := by
  by_cases h0 : c = 0
  · subst h0; rfl
  · rw [counts_get l (by omega) h]
    simp [cc, h0]
theorem cc_app (l m : List Snp) (c : Nat) : cc (l ++ m) c = cc l c + cc m c := by
  unfold cc
  split
  · rfl
  · rw [cnt_app]
theorem cc_le (l : List Snp) (c : Nat) : cc l c ≤ many l := by
  unfold cc
  split
  · omega
  · exact cnt_le l c
theorem nn_succ (l : List Snp) (c : Nat) : distinctN l (c + 1 - 1) = distinctN l (c - 1) + if 0 < cc l c then 1 else 0 := by
  cases c with
  | zero => simp [cc]
  | succ d =>
    show distinctN l (d + 1) = distinctN l d + _
    rw [distinctN_succ]
    have : has l d = decide (0 < cc l (d + 1)) := by simp [has, cc]
    rw [this]
    simp
theorem nn_le (l : List Snp) (c : Nat) : distinctN l (c - 1) ≤ c := Nat.le_trans (distinctN_le _ _) (by omega)
theorem has_app (l m : List Snp) (i : Nat) : has (l ++ m) i = (has l i || has m i) := by
  unfold has
  rw [cnt_app, Bool.eq_iff_iff]
  simp only [decide_eq_true_eq, Bool.or_eq_true]
  omega
theorem distinctN_ge (l m : List Snp) (n : Nat) : distinctN l n ≤ distinctN (l ++ m) n := by
  unfold distinctN
  exact List.countP_mono_left fun i _ h => by rw [has_app, h]; rfl
theorem countP_or (p q : Nat → Bool) : ∀ l : List Nat, l.countP (fun i => p i || q i) ≤ l.countP p + l.countP q
  | [] => by simp
  | a :: l => by
    have := countP_or p q l
    rw [List.countP_cons, List.countP_cons, List.countP_cons]
    cases p a <;> cases q a <;> simp <;> omega
theorem distinctN_app_le (l m : List Snp) (n : Nat) : distinctN (l ++ m) n ≤ distinctN l n + distinctN m n := by
  unfold distinctN
  have : (List.range n).countP (fun i => has (l ++ m) i) = (List.range n).countP fun i => has l i || has m i := by
    congr 1
    funext i
    exact has_app l m i
  rw [this]
  exact countP_or _ _ _
theorem countP_one (x : Int) (n : Nat) : (List.range n).countP (fun i : Nat => decide (x = (i : Int) + 1)) ≤ 1 := by
  induction n with
  | zero => simp
  | succ n ih =>
    rw [List.range_succ, List.countP_append]
    by_cases h : x = (n : Int) + 1
    · have h0 : (List.range n).countP (fun i : Nat => decide (x = (i : Int) + 1)) = 0 := by
        rw [List.countP_eq_zero]
        intro i hi
        have := List.mem_range.1 hi
        simp; omega
      rw [h0]
      simp [List.countP_cons, h]
    · simp [List.countP_cons, h] at *
      omega
theorem distinctN_one : ∀ (ch : List Int) (n : Nat), distinctN [one ch] n ≤ ch.length
  | [], n => by
    unfold distinctN
    rw [List.countP_eq_zero.2]
    · simp
    · intro i _
      simp [has, cnt, one]
  | x :: ch, n => by
    have ih := distinctN_one ch n
    have h1 := countP_one x n
    have h2 := countP_or (fun i => has [one ch] i) (fun i : Nat => decide (x = (i : Int) + 1)) (List.range n)
    have h3 : distinctN [one (x :: ch)] n ≤ (List.range n).countP (fun i => has [one ch] i || decide (x = (i : Int) + 1)) := by
      unfold distinctN
      refine List.countP_mono_left fun i _ h => ?_
      simp only [has, cnt_one, one, decide_eq_true_eq, List.count_cons, Bool.or_eq_true] at *
      by_cases e : x = (i : Int) + 1
      · exact .inr e
      · left
        simp [e] at h
        exact List.count_pos_iff.2 h
    unfold distinctN at ih h3 ⊢
    rw [List.length_cons]
    omega
theorem with_ge (l : List Snp) (ch : List Int) : distinct l ≤ withC l ch := distinctN_ge l [one ch] 64
theorem with_le (l : List Snp) (ch : List Int) : withC l ch ≤ distinct l + ch.length := by
  have h1 := distinctN_app_le l [one ch] 64
  have h2 := distinctN_one ch 64
  unfold withC distinct
  omega
theorem with_nil (l : List Snp) : withC l [] = distinct l := by
  have h1 := with_ge l []
  have h2 := with_le l []
  simp at h2
  omega
end Rf
end Go.Proofs.Ytcbfcjpmoechlaa
