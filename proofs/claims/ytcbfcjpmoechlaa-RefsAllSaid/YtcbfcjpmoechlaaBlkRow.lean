/-
  A block whose cells are all written at once.
-/
import Derived.Test.YtcbfcjpmoechlaaWords
import Derived.Laws.Tables
set_option linter.unusedVariables false
set_option linter.unusedSimpArgs false
namespace Go.Proofs.Ytcbfcjpmoechlaa
open Go.RowKit

theorem row_blk {w : World} {g : Nat} {t : TypeId} {cs : Array Value} (h : Blk w g t cs) (cs' : Array Value) : Blk (w.setRow g cs') g t cs' ∧ w.grownBy (w.setRow g cs') (some g) :=
  ⟨setRow_heap w g cs cs' t (0, 0) h, rfl, rfl, rfl, by simp, fun k _ hne => setRow_other w g k cs' (fun e => hne (by rw [e]))⟩
end Go.Proofs.Ytcbfcjpmoechlaa
