/-
  The walks of the reference of layer 5: numbers and rows of them.
-/
import Derived.Test.YtkagonijkalicaaMgA
import Derived.Test.YtkagonijkalicaaMgC
import Derived.Test.YtkagonijkalicaaMgF
import Derived.Test.YtkagonijkalicaaCmRowW
import Derived.Deep.DeepCutAuto
import Derived.BigQuiet
set_option linter.unusedVariables false
set_option linter.unusedSimpArgs false
namespace Go.Proofs.Ytkagonijkalicaa
open Go.RowKit
open Cm (inR inR_iff need needs aheadI bad rowGo row chunksB unchunk rowGo_step row_mem)
open Vi (put put_len put_byte rput_int)

set_option maxRecDepth 100000 in
theorem rneed_any (k : Int) (w : World) : Calls Try.prog 23 #[.int .i64 k] w fun e w' => e = .returned (.int .i64 (need k)) ∧ w = w' := by
  cases h1 : inR k 1 8 with
  | true =>
    have HV := Lib.hid (show need k = 1 by unfold need; rw [h1]; rfl)
    go_enter Try.func23, Try.ntmps23
    go_wp2_with (go_at_call 42; refine (in_any _ _ _ _).mono ?_; rintro _ _ ⟨rfl, rfl⟩)
    go_ret
    exact ⟨by rw [HV.out]; rfl, rfl⟩
  | false =>
    cases h2 : inR k 9 10 with
    | true =>
      have HV := Lib.hid (show need k = 2 by unfold need; rw [h1, h2]; rfl)
      go_enter Try.func23, Try.ntmps23
      go_wp2_with (go_at_call 42; refine (in_any _ _ _ _).mono ?_; rintro _ _ ⟨rfl, rfl⟩)
      go_ret
      exact ⟨by rw [HV.out]; rfl, rfl⟩
    | false =>
      cases h3 : inR k 11 12 with
      | true =>
        have HV := Lib.hid (show need k = 3 by unfold need; rw [h1, h2, h3]; rfl)
        go_enter Try.func23, Try.ntmps23
        go_wp2_with (go_at_call 42; refine (in_any _ _ _ _).mono ?_; rintro _ _ ⟨rfl, rfl⟩)
        go_ret
        exact ⟨by rw [HV.out]; rfl, rfl⟩
      | false =>
        have HV := Lib.hid (show need k = 0 by unfold need; rw [h1, h2, h3]; rfl)
        go_enter Try.func23, Try.ntmps23
        go_wp2_with (go_at_call 42; refine (in_any _ _ _ _).mono ?_; rintro _ _ ⟨rfl, rfl⟩)
        go_ret
        exact ⟨by rw [HV.out]; rfl, rfl⟩

set_option maxRecDepth 100000 in
theorem needs_any (x : Int) (u : Bool) (a b : Int) (w : World) : Calls Try.prog 45 #[.int .i64 x, .bool u, .int .i64 a, .int .i64 b] w fun e w' => e = .returned (.bool (needs x u a b)) ∧ w = w' := by
  cases u with
  | true =>
    have HV := Lib.hid (show needs x true a b = inR x a b from rfl)
    go_enter Try.func45, Try.ntmps45
    go_wp2_with (go_at_call 42; refine (in_any _ _ _ _).mono ?_; rintro _ _ ⟨rfl, rfl⟩)
    go_ret
    exact ⟨by rw [HV.out]; rfl, rfl⟩
  | false =>
    have HV := Lib.hid (show needs x false a b = (x == 0) by unfold needs; rw [if_neg (by decide)]; rfl)
    go_enter Try.func45, Try.ntmps45
    go_wp2_with fail
    go_ret
    exact ⟨by rw [HV.out]; rfl, rfl⟩
end Go.Proofs.Ytkagonijkalicaa
