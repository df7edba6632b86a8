/-
  An operation of a drawn region that is not wanted, since the one that guards it was not wanted.
-/
import Derived.Test.YtdkjdiamekfbdaaSteady
namespace Go.Proofs.Ytdkjdiamekfbdaa
open Go.RowKit

theorem yielded_no {ops : Array Oper} {j : Nat} {t : Tmp} {a : Act} (hj : (ops[j]?).bind (·.dst) = some t) (hs : slot a t = undef) : yielded ops a.tmps j = none := by
  unfold yielded
  rw [hj]
  unfold slot at hs
  cases h : a.tmps[t]? with
  | none => simp [h]
  | some u => simp [h] at hs; simp [h, hs, undef]
theorem owed_skipped0 {P : Program} {ops : Array Oper} {Γ : Tmp → Value → World → Prop} {a0 : Act} {o : Oper} {d g : Tmp} {j : Nat} {b : Bool} {w0 : World} (hg : o.guard = some (j, b)) (hj : (ops[j]?).bind (·.dst) = some g) (hd : o.dst = some d)
    (hk : ((o.looksAt ops).contains g && fromBefore ops o g) = true) (hv : ∀ v w, Γ g v w → v = undef) (h : ∀ w, Γ d undef w) : Owed P ops Γ (Grew w0) Grew a0 o := by
  intro a w hC hK
  simp only [Bool.and_eq_true] at hk
  have hs := hK g (by simpa using hk.1)
  rw [if_pos hk.2] at hs
  rw [if_neg (by simp [Region.wanted, hg, yielded_no hj (hv _ _ hs)])]
  intro e he
  rw [hd] at he
  cases he
  exact h w
end Go.Proofs.Ytdkjdiamekfbdaa
