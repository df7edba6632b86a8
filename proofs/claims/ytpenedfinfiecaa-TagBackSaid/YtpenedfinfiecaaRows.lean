/-
  No cell of these rows narrows 'for every input' (looked for: loops, veiled, ifaces, maps, wideKeys, modest, calm, conditions, laid).
  DERIVED. THE GIVEN ROWS OF THIS SEAT. 4 by the template 'for every input the law returns true; each argument reads behind the call as it read before'; 0 by the template 'total and deterministic' (their statements: YtpenedfinfiecaaTotals.lean).
  GIVEN WITH THE SEED: the statements are not yours to turn. If you find one false, say at which input.
  Laid BY PROGRAM, IN A SANDBOX (cutbox-rows.mjs): the forced cells as the released guide's own fill.sh prints them over the translation 4460c2f8fab3d50c… (all of the seat's roots in one cut). By AI agents, Wed Nov 11 2026. No macro, syntax, notation, axiom, sorry.
-/
import Derived.Test.YtpenedfinfiecaaChecked
import GoSem.Claim
import GoSem.ClaimJoined
import GoSem.ClaimMapViews
import Derived.JoinedTies
import Derived.KernelRfl
namespace Go.Proofs.Ytpenedfinfiecaa
/- THE CELL 'sum', in the pinned program and in every row, IS THE sha256 OF THE DUMP (.gsa) THAT YtpenedfinfiecaaProg.lean LOADS. Nothing in Lean hashes anything: it is a label: what it is worth is what the hold of that sum in a sandbox is worth. -/
noncomputable def Try.pinned : Pinned := { name := "ytpenedfinfiecaa", sum := "4460c2f8fab3d50c0ce3d9ec047d1beacd30e9791a93ebc9ff0207c93ed6eae0", checked := Try.checked }
namespace Rows
def none {H : Type} : Left H := { results := [], args := [] }

/-- 'coraclelaw02.TagAll': WHATEVER THE INPUT: true; the input reads as it did. -/
def tagAllSpec : ChangeSpec := { name := "tagAll", fn := fun _ => fun
  | [d1, d2, d3] => { results := [.lit (.bool true)], args := [d1, d2, d3] }
  | _ => none }
def tagAllRow : OpenClaim := { program := "ytpenedfinfiecaa", sum := "4460c2f8fab3d50c0ce3d9ec047d1beacd30e9791a93ebc9ff0207c93ed6eae0", func := "coracle/coraclelaw02.TagAll", spec := "tagAll", unfollowed := true, recurses := true, apart := false }
def TagAllSaid : Prop := tagAllRow.holds Try.pinned (OpenSpec.ofChange tagAllSpec)

/-- ITS FALSE NEIGHBOUR: 'it returns false'. Refute it at one input. -/
def tagAllWrong : ChangeSpec := { name := "tagAll", fn := fun _ => fun
  | [d1, d2, d3] => { results := [.lit (.bool false)], args := [d1, d2, d3] }
  | _ => none }
def TagAllWrongFalsely : Prop := tagAllRow.holds Try.pinned (OpenSpec.ofChange tagAllWrong)

/-- 'coraclelaw02.TagBack': WHATEVER THE INPUT: true; the input reads as it did. -/
def tagBackSpec : ChangeSpec := { name := "tagBack", fn := fun _ => fun
  | [d1, d2, d3] => { results := [.lit (.bool true)], args := [d1, d2, d3] }
  | _ => none }
def tagBackRow : OpenClaim := { program := "ytpenedfinfiecaa", sum := "4460c2f8fab3d50c0ce3d9ec047d1beacd30e9791a93ebc9ff0207c93ed6eae0", func := "coracle/coraclelaw02.TagBack", spec := "tagBack", unfollowed := true, recurses := true, apart := false }
def TagBackSaid : Prop := tagBackRow.holds Try.pinned (OpenSpec.ofChange tagBackSpec)

/-- ITS FALSE NEIGHBOUR: 'it returns false'. Refute it at one input. -/
def tagBackWrong : ChangeSpec := { name := "tagBack", fn := fun _ => fun
  | [d1, d2, d3] => { results := [.lit (.bool false)], args := [d1, d2, d3] }
  | _ => none }
def TagBackWrongFalsely : Prop := tagBackRow.holds Try.pinned (OpenSpec.ofChange tagBackWrong)

/-- 'coraclelaw02.TagSkips': WHATEVER THE INPUT: true; the input reads as it did. -/
def tagSkipsSpec : ChangeSpec := { name := "tagSkips", fn := fun _ => fun
  | [d1, d2, d3] => { results := [.lit (.bool true)], args := [d1, d2, d3] }
  | _ => none }
def tagSkipsRow : OpenClaim := { program := "ytpenedfinfiecaa", sum := "4460c2f8fab3d50c0ce3d9ec047d1beacd30e9791a93ebc9ff0207c93ed6eae0", func := "coracle/coraclelaw02.TagSkips", spec := "tagSkips", unfollowed := true, recurses := true, apart := false }
def TagSkipsSaid : Prop := tagSkipsRow.holds Try.pinned (OpenSpec.ofChange tagSkipsSpec)

/-- ITS FALSE NEIGHBOUR: 'it returns false'. Refute it at one input. -/
def tagSkipsWrong : ChangeSpec := { name := "tagSkips", fn := fun _ => fun
  | [d1, d2, d3] => { results := [.lit (.bool false)], args := [d1, d2, d3] }
  | _ => none }
def TagSkipsWrongFalsely : Prop := tagSkipsRow.holds Try.pinned (OpenSpec.ofChange tagSkipsWrong)

/-- 'coraclelaw02.TagOnce': WHATEVER THE INPUT: true; the input reads as it did. -/
def tagOnceSpec : ChangeSpec := { name := "tagOnce", fn := fun _ => fun
  | [d1, d2, d3] => { results := [.lit (.bool true)], args := [d1, d2, d3] }
  | _ => none }
def tagOnceRow : OpenClaim := { program := "ytpenedfinfiecaa", sum := "4460c2f8fab3d50c0ce3d9ec047d1beacd30e9791a93ebc9ff0207c93ed6eae0", func := "coracle/coraclelaw02.TagOnce", spec := "tagOnce", unfollowed := true, recurses := true, apart := false }
def TagOnceSaid : Prop := tagOnceRow.holds Try.pinned (OpenSpec.ofChange tagOnceSpec)

/-- ITS FALSE NEIGHBOUR: 'it returns false'. Refute it at one input. -/
def tagOnceWrong : ChangeSpec := { name := "tagOnce", fn := fun _ => fun
  | [d1, d2, d3] => { results := [.lit (.bool false)], args := [d1, d2, d3] }
  | _ => none }
def TagOnceWrongFalsely : Prop := tagOnceRow.holds Try.pinned (OpenSpec.ofChange tagOnceWrong)

/- THE SECOND FORM. 'bulk': how many values and letters a reading holds, each counted each time it is reached (what is shared counts as often as it is met; a slice's spare places count too). A statement '..UptoSaid' is the law's where the arguments, and the package variables that the reading takes, are together of bulk at most 1048576: NARROWER than '..Said'. Prove '..Said' where nothing that the law and all that it calls make is longer than what came in: it says more and counts as full. Else prove '..UptoSaid'. A law counts once. -/
mutual
def uptoBulk {H : Type} : DataW H → Nat
  | .lit (.string bytes) => bytes.length + 1
  | .lit _ => 1
  | .nil => 1
  | .ptr d => uptoBulk d + 1
  | .slice elems spare => uptoBulkAll elems + uptoBulkAll spare + 1
  | .agg parts => uptoBulkAll parts + 1
  | .iface _ d => uptoBulk d + 1
  | .map entries => uptoBulkEntries entries + 1
  | .held _ => 1
def uptoBulkAll {H : Type} : List (DataW H) → Nat
  | [] => 0
  | d :: r => uptoBulk d + uptoBulkAll r
def uptoBulkEntries {H : Type} : List (Lit × DataW H) → Nat
  | [] => 0
  | x :: r => uptoBulkEntry x + uptoBulkEntries r
def uptoBulkEntry {H : Type} : Lit × DataW H → Nat
  | (.string bytes, d) => bytes.length + uptoBulk d + 1
  | (_, d) => uptoBulk d + 1
 end
def uptoSmall : (H : Type) → List (DataW H) → Bool := fun _ ds => decide (uptoBulkAll ds ≤ 1048576)
def OpenSpec.upto (s : _root_.Go.ChangeSpec) : _root_.Go.OpenSpec := { _root_.Go.OpenSpec.ofChange s with cond := some uptoSmall }

/-- 'coraclelaw02.TagAll', WHERE WHAT IT READS IS OF BULK AT MOST 1048576: true; the input reads as it did. -/
def tagAllUptoRow : OpenClaim := { program := "ytpenedfinfiecaa", sum := "4460c2f8fab3d50c0ce3d9ec047d1beacd30e9791a93ebc9ff0207c93ed6eae0", func := "coracle/coraclelaw02.TagAll", spec := "tagAll", unfollowed := true, recurses := true, apart := false, narrowed := true }
def TagAllUptoSaid : Prop := tagAllUptoRow.holds Try.pinned (OpenSpec.upto tagAllSpec)

/-- 'coraclelaw02.TagBack', WHERE WHAT IT READS IS OF BULK AT MOST 1048576: true; the input reads as it did. -/
def tagBackUptoRow : OpenClaim := { program := "ytpenedfinfiecaa", sum := "4460c2f8fab3d50c0ce3d9ec047d1beacd30e9791a93ebc9ff0207c93ed6eae0", func := "coracle/coraclelaw02.TagBack", spec := "tagBack", unfollowed := true, recurses := true, apart := false, narrowed := true }
def TagBackUptoSaid : Prop := tagBackUptoRow.holds Try.pinned (OpenSpec.upto tagBackSpec)

/-- 'coraclelaw02.TagSkips', WHERE WHAT IT READS IS OF BULK AT MOST 1048576: true; the input reads as it did. -/
def tagSkipsUptoRow : OpenClaim := { program := "ytpenedfinfiecaa", sum := "4460c2f8fab3d50c0ce3d9ec047d1beacd30e9791a93ebc9ff0207c93ed6eae0", func := "coracle/coraclelaw02.TagSkips", spec := "tagSkips", unfollowed := true, recurses := true, apart := false, narrowed := true }
def TagSkipsUptoSaid : Prop := tagSkipsUptoRow.holds Try.pinned (OpenSpec.upto tagSkipsSpec)

/-- 'coraclelaw02.TagOnce', WHERE WHAT IT READS IS OF BULK AT MOST 1048576: true; the input reads as it did. -/
def tagOnceUptoRow : OpenClaim := { program := "ytpenedfinfiecaa", sum := "4460c2f8fab3d50c0ce3d9ec047d1beacd30e9791a93ebc9ff0207c93ed6eae0", func := "coracle/coraclelaw02.TagOnce", spec := "tagOnce", unfollowed := true, recurses := true, apart := false, narrowed := true }
def TagOnceUptoSaid : Prop := tagOnceUptoRow.holds Try.pinned (OpenSpec.upto tagOnceSpec)

end Rows
end Go.Proofs.Ytpenedfinfiecaa
