/-
  What the calls of layer 5 come to, in words.
-/
import Derived.Test.YtkagonijkalicaaCmTake
import Derived.Test.YtkagonijkalicaaCmSame
import Derived.Test.YtkagonijkalicaaMgE
set_option linter.unusedVariables false
set_option linter.unusedSimpArgs false
namespace Go.Proofs.Ytkagonijkalicaa
open Go.RowKit
open Cm (Cmd project)

/-- A command that comes back. -/
def CmdBack (w : World) (c : Cmd) (e : Ending) (w' : World) : Prop := ∃ s : Option Addr × Nat, e = .returned (cagg c s) ∧ RdC w' w'.heap.size c s ∧ Below w.heap.size w w'
theorem project_ok {c : Cmd} (h : Cok c) (v : Int) : Cok (project c v) := by
  unfold project
  split
  · exact ⟨h.1, h.2.1, by simp, h.2.2.2.1, by simp⟩
  · exact h
theorem project_chunks (c : Cmd) (v : Int) : (project c v).chunks = c.chunks := by unfold project; split <;> rfl
/-- What is said of a temporary that holds a command. -/
def iscmd (c : Cmd) : Sp := ⟨fun v w => ∃ s : Option Addr × Nat, v = cagg c s ∧ RdC w w.heap.size c s, fun _ _ _ hx h => by
  obtain ⟨s, hv, hr⟩ := h
  exact ⟨s, hv, (hr.below hx).more hx.size⟩⟩
theorem takeC_ok {bs : List Nat} (hb : ∀ c ∈ bs, c < 256) (v : Int) : Cok (Cm.takeC bs v).1 ∧ (∀ f ∈ (Cm.takeC bs v).2.1, Fok f) ∧ (Cm.takeC bs v).2.1.length ≤ 16384 := by
  unfold Cm.takeC
  split
  · exact ⟨no_ok, by simp, by simp⟩
  split
  · exact ⟨no_ok, by simp, by simp⟩
  rename_i he
  obtain ⟨l, hl⟩ : ∃ l, Tl.takeRow bs = (l, 0) := ⟨_, Prod.ext rfl (Decidable.not_not.1 he)⟩
  rw [hl]
  obtain ⟨h1, h2⟩ := took_ok hb hl
  split
  · exact ⟨no_ok, by simp, by simp⟩
  split
  · exact ⟨fold_ok _ _ no_ok (fun f hf => (h1 f (List.mem_filter.1 hf).1).1), fun f hf => (h1 f (List.mem_filter.1 hf).1).1, Nat.le_trans (List.length_filter_le _ _) h2⟩
  · exact ⟨no_ok, by simp, by simp⟩
end Go.Proofs.Ytkagonijkalicaa
