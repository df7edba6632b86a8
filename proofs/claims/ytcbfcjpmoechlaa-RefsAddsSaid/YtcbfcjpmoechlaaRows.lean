/-
  No cell of these rows narrows 'for every input' (looked for: loops, veiled, ifaces, maps, wideKeys, modest, calm, conditions, laid).
  DERIVED. THE GIVEN ROWS OF THIS SEAT. 5 by the template 'for every input the law returns true; each argument reads behind the call as it read before'; 0 by the template 'total and deterministic' (their statements: YtcbfcjpmoechlaaTotals.lean).
  GIVEN WITH THE SEED: the statements are not yours to turn. If you find one false, say at which input.
  Laid BY PROGRAM, IN A SANDBOX (cutbox-rows.mjs): the forced cells as the released guide's own fill.sh prints them over the translation d76f160e9abed6e7… (all of the seat's roots in one cut). By AI agents, Wed Nov 11 2026. No macro, syntax, notation, axiom, sorry.
-/
import Derived.Test.YtcbfcjpmoechlaaChecked
import GoSem.Claim
import GoSem.ClaimJoined
import GoSem.ClaimMapViews
import Derived.JoinedTies
import Derived.KernelRfl
namespace Go.Proofs.Ytcbfcjpmoechlaa
/- THE CELL 'sum', in the pinned program and in every row, IS THE sha256 OF THE DUMP (.gsa) THAT YtcbfcjpmoechlaaProg.lean LOADS. Nothing in Lean hashes anything: it is a label: what it is worth is what the hold of that sum in a sandbox is worth. -/
noncomputable def Try.pinned : Pinned := { name := "ytcbfcjpmoechlaa", sum := "d76f160e9abed6e7e917b74a6be1c86950f180d785671c1f575f910d303b3b23", checked := Try.checked }
namespace Rows
def none {H : Type} : Left H := { results := [], args := [] }

/-- 'coraclelaw06.RefsAll': WHATEVER THE INPUT: true; the input reads as it did. -/
def refsAllSpec : ChangeSpec := { name := "refsAll", fn := fun _ => fun
  | [d1, d2, d3] => { results := [.lit (.bool true)], args := [d1, d2, d3] }
  | _ => none }
def refsAllRow : OpenClaim := { program := "ytcbfcjpmoechlaa", sum := "d76f160e9abed6e7e917b74a6be1c86950f180d785671c1f575f910d303b3b23", func := "coracle/coraclelaw06.RefsAll", spec := "refsAll", unfollowed := true, recurses := true, apart := false }
def RefsAllSaid : Prop := refsAllRow.holds Try.pinned (OpenSpec.ofChange refsAllSpec)

/-- ITS FALSE NEIGHBOUR: 'it returns false'. Refute it at one input. -/
def refsAllWrong : ChangeSpec := { name := "refsAll", fn := fun _ => fun
  | [d1, d2, d3] => { results := [.lit (.bool false)], args := [d1, d2, d3] }
  | _ => none }
def RefsAllWrongFalsely : Prop := refsAllRow.holds Try.pinned (OpenSpec.ofChange refsAllWrong)

/-- 'coraclelaw06.RefsFreed': WHATEVER THE INPUT: true; the input reads as it did. -/
def refsFreedSpec : ChangeSpec := { name := "refsFreed", fn := fun _ => fun
  | [d1, d2] => { results := [.lit (.bool true)], args := [d1, d2] }
  | _ => none }
def refsFreedRow : OpenClaim := { program := "ytcbfcjpmoechlaa", sum := "d76f160e9abed6e7e917b74a6be1c86950f180d785671c1f575f910d303b3b23", func := "coracle/coraclelaw06.RefsFreed", spec := "refsFreed", unfollowed := true, recurses := true, apart := false }
def RefsFreedSaid : Prop := refsFreedRow.holds Try.pinned (OpenSpec.ofChange refsFreedSpec)

/-- ITS FALSE NEIGHBOUR: 'it returns false'. Refute it at one input. -/
def refsFreedWrong : ChangeSpec := { name := "refsFreed", fn := fun _ => fun
  | [d1, d2] => { results := [.lit (.bool false)], args := [d1, d2] }
  | _ => none }
def RefsFreedWrongFalsely : Prop := refsFreedRow.holds Try.pinned (OpenSpec.ofChange refsFreedWrong)

/-- 'coraclelaw06.RefsAdds': WHATEVER THE INPUT: true; the input reads as it did. -/
def refsAddsSpec : ChangeSpec := { name := "refsAdds", fn := fun _ => fun
  | [d1, d2, d3] => { results := [.lit (.bool true)], args := [d1, d2, d3] }
  | _ => none }
def refsAddsRow : OpenClaim := { program := "ytcbfcjpmoechlaa", sum := "d76f160e9abed6e7e917b74a6be1c86950f180d785671c1f575f910d303b3b23", func := "coracle/coraclelaw06.RefsAdds", spec := "refsAdds", unfollowed := true, recurses := true, apart := false }
def RefsAddsSaid : Prop := refsAddsRow.holds Try.pinned (OpenSpec.ofChange refsAddsSpec)

/-- ITS FALSE NEIGHBOUR: 'it returns false'. Refute it at one input. -/
def refsAddsWrong : ChangeSpec := { name := "refsAdds", fn := fun _ => fun
  | [d1, d2, d3] => { results := [.lit (.bool false)], args := [d1, d2, d3] }
  | _ => none }
def RefsAddsWrongFalsely : Prop := refsAddsRow.holds Try.pinned (OpenSpec.ofChange refsAddsWrong)

/-- 'coraclelaw06.RefsBounds': WHATEVER THE INPUT: true; the input reads as it did. -/
def refsBoundsSpec : ChangeSpec := { name := "refsBounds", fn := fun _ => fun
  | [d] => { results := [.lit (.bool true)], args := [d] }
  | _ => none }
def refsBoundsRow : OpenClaim := { program := "ytcbfcjpmoechlaa", sum := "d76f160e9abed6e7e917b74a6be1c86950f180d785671c1f575f910d303b3b23", func := "coracle/coraclelaw06.RefsBounds", spec := "refsBounds", unfollowed := true, recurses := true, apart := false }
def RefsBoundsSaid : Prop := refsBoundsRow.holds Try.pinned (OpenSpec.ofChange refsBoundsSpec)

/-- ITS FALSE NEIGHBOUR: 'it returns false'. Refute it at one input. -/
def refsBoundsWrong : ChangeSpec := { name := "refsBounds", fn := fun _ => fun
  | [d] => { results := [.lit (.bool false)], args := [d] }
  | _ => none }
def RefsBoundsWrongFalsely : Prop := refsBoundsRow.holds Try.pinned (OpenSpec.ofChange refsBoundsWrong)

/-- 'coraclelaw06.RefsGone': WHATEVER THE INPUT: true; the input reads as it did. -/
def refsGoneSpec : ChangeSpec := { name := "refsGone", fn := fun _ => fun
  | [d] => { results := [.lit (.bool true)], args := [d] }
  | _ => none }
def refsGoneRow : OpenClaim := { program := "ytcbfcjpmoechlaa", sum := "d76f160e9abed6e7e917b74a6be1c86950f180d785671c1f575f910d303b3b23", func := "coracle/coraclelaw06.RefsGone", spec := "refsGone", unfollowed := true, recurses := true, apart := false }
def RefsGoneSaid : Prop := refsGoneRow.holds Try.pinned (OpenSpec.ofChange refsGoneSpec)

/-- ITS FALSE NEIGHBOUR: 'it returns false'. Refute it at one input. -/
def refsGoneWrong : ChangeSpec := { name := "refsGone", fn := fun _ => fun
  | [d] => { results := [.lit (.bool false)], args := [d] }
  | _ => none }
def RefsGoneWrongFalsely : Prop := refsGoneRow.holds Try.pinned (OpenSpec.ofChange refsGoneWrong)

/- THE SECOND FORM. 'bulk': how many values and letters a reading holds, each counted each time it is reached (what is shared counts as often as it is met; a slice's spare places count too). A statement '..UptoSaid' is the law's where the arguments, and the package variables that the reading takes, are together of bulk at most 1048576: NARROWER than '..Said'. Prove '..Said' where nothing that the law and all that it calls make is longer than what came in: it says more and counts as full. Else prove '..UptoSaid'. A law counts once. -/
mutual
def uptoBulk {H : Type} : DataW H → Nat
  | .lit (.string bytes) => bytes.length + 1
  | .lit _ => 1
  | .nil => 1
  | .ptr d => uptoBulk d + 1
  | .slice elems spare => uptoBulkAll elems + uptoBulkAll spare + 1
  | .agg parts => uptoBulkAll parts + 1
  | .iface _ d => uptoBulk d + 1
  | .map entries => uptoBulkEntries entries + 1
  | .held _ => 1
def uptoBulkAll {H : Type} : List (DataW H) → Nat
  | [] => 0
  | d :: r => uptoBulk d + uptoBulkAll r
def uptoBulkEntries {H : Type} : List (Lit × DataW H) → Nat
  | [] => 0
  | x :: r => uptoBulkEntry x + uptoBulkEntries r
def uptoBulkEntry {H : Type} : Lit × DataW H → Nat
  | (.string bytes, d) => bytes.length + uptoBulk d + 1
  | (_, d) => uptoBulk d + 1
 end
def uptoSmall : (H : Type) → List (DataW H) → Bool := fun _ ds => decide (uptoBulkAll ds ≤ 1048576)
def OpenSpec.upto (s : _root_.Go.ChangeSpec) : _root_.Go.OpenSpec := { _root_.Go.OpenSpec.ofChange s with cond := some uptoSmall }

/-- 'coraclelaw06.RefsAll', WHERE WHAT IT READS IS OF BULK AT MOST 1048576: true; the input reads as it did. -/
def refsAllUptoRow : OpenClaim := { program := "ytcbfcjpmoechlaa", sum := "d76f160e9abed6e7e917b74a6be1c86950f180d785671c1f575f910d303b3b23", func := "coracle/coraclelaw06.RefsAll", spec := "refsAll", unfollowed := true, recurses := true, apart := false, narrowed := true }
def RefsAllUptoSaid : Prop := refsAllUptoRow.holds Try.pinned (OpenSpec.upto refsAllSpec)

/-- 'coraclelaw06.RefsFreed', WHERE WHAT IT READS IS OF BULK AT MOST 1048576: true; the input reads as it did. -/
def refsFreedUptoRow : OpenClaim := { program := "ytcbfcjpmoechlaa", sum := "d76f160e9abed6e7e917b74a6be1c86950f180d785671c1f575f910d303b3b23", func := "coracle/coraclelaw06.RefsFreed", spec := "refsFreed", unfollowed := true, recurses := true, apart := false, narrowed := true }
def RefsFreedUptoSaid : Prop := refsFreedUptoRow.holds Try.pinned (OpenSpec.upto refsFreedSpec)

/-- 'coraclelaw06.RefsAdds', WHERE WHAT IT READS IS OF BULK AT MOST 1048576: true; the input reads as it did. -/
def refsAddsUptoRow : OpenClaim := { program := "ytcbfcjpmoechlaa", sum := "d76f160e9abed6e7e917b74a6be1c86950f180d785671c1f575f910d303b3b23", func := "coracle/coraclelaw06.RefsAdds", spec := "refsAdds", unfollowed := true, recurses := true, apart := false, narrowed := true }
def RefsAddsUptoSaid : Prop := refsAddsUptoRow.holds Try.pinned (OpenSpec.upto refsAddsSpec)

/-- 'coraclelaw06.RefsBounds', WHERE WHAT IT READS IS OF BULK AT MOST 1048576: true; the input reads as it did. -/
def refsBoundsUptoRow : OpenClaim := { program := "ytcbfcjpmoechlaa", sum := "d76f160e9abed6e7e917b74a6be1c86950f180d785671c1f575f910d303b3b23", func := "coracle/coraclelaw06.RefsBounds", spec := "refsBounds", unfollowed := true, recurses := true, apart := false, narrowed := true }
def RefsBoundsUptoSaid : Prop := refsBoundsUptoRow.holds Try.pinned (OpenSpec.upto refsBoundsSpec)

/-- 'coraclelaw06.RefsGone', WHERE WHAT IT READS IS OF BULK AT MOST 1048576: true; the input reads as it did. -/
def refsGoneUptoRow : OpenClaim := { program := "ytcbfcjpmoechlaa", sum := "d76f160e9abed6e7e917b74a6be1c86950f180d785671c1f575f910d303b3b23", func := "coracle/coraclelaw06.RefsGone", spec := "refsGone", unfollowed := true, recurses := true, apart := false, narrowed := true }
def RefsGoneUptoSaid : Prop := refsGoneUptoRow.holds Try.pinned (OpenSpec.upto refsGoneSpec)

end Rows
end Go.Proofs.Ytcbfcjpmoechlaa
