/-
  No cell of these rows narrows 'for every input' (looked for: loops, veiled, ifaces, maps, wideKeys, modest, calm, conditions, laid).
  DERIVED. THE GIVEN ROWS OF THIS SEAT. 5 by the template 'for every input the law returns true; each argument reads behind the call as it read before'; 0 by the template 'total and deterministic' (their statements: YtmcbifdfpaooaaaTotals.lean).
  GIVEN WITH THE SEED: the statements are not yours to turn. If you find one false, say at which input.
  Laid BY PROGRAM, IN A SANDBOX (cutbox-rows.mjs): the forced cells as the released guide's own fill.sh prints them over the translation 7f1115f1e84d4649… (all of the seat's roots in one cut). By AI agents, Wed Nov 11 2026. No macro, syntax, notation, axiom, sorry.
-/
import Derived.Test.YtmcbifdfpaooaaaChecked
import GoSem.Claim
import GoSem.ClaimJoined
import GoSem.ClaimMapViews
import Derived.JoinedTies
import Derived.KernelRfl
namespace Go.Proofs.Ytmcbifdfpaooaaa
/- THE CELL 'sum', in the pinned program and in every row, IS THE sha256 OF THE DUMP (.gsa) THAT YtmcbifdfpaooaaaProg.lean LOADS. Nothing in Lean hashes anything: it is a label: what it is worth is what the hold of that sum in a sandbox is worth. -/
noncomputable def Try.pinned : Pinned := { name := "ytmcbifdfpaooaaa", sum := "7f1115f1e84d4649a88e9bbab3ad630fcda65fbf495ca6b47d63e0911a3b0c5e", checked := Try.checked }
namespace Rows
def none {H : Type} : Left H := { results := [], args := [] }

/-- 'coraclelaw04.FormAll': WHATEVER THE INPUT: true; the input reads as it did. -/
def formAllSpec : ChangeSpec := { name := "formAll", fn := fun _ => fun
  | [d1, d2, d3] => { results := [.lit (.bool true)], args := [d1, d2, d3] }
  | _ => none }
def formAllRow : OpenClaim := { program := "ytmcbifdfpaooaaa", sum := "7f1115f1e84d4649a88e9bbab3ad630fcda65fbf495ca6b47d63e0911a3b0c5e", func := "coracle/coraclelaw04.FormAll", spec := "formAll", unfollowed := true, recurses := true, apart := false }
def FormAllSaid : Prop := formAllRow.holds Try.pinned (OpenSpec.ofChange formAllSpec)

/-- ITS FALSE NEIGHBOUR: 'it returns false'. Refute it at one input. -/
def formAllWrong : ChangeSpec := { name := "formAll", fn := fun _ => fun
  | [d1, d2, d3] => { results := [.lit (.bool false)], args := [d1, d2, d3] }
  | _ => none }
def FormAllWrongFalsely : Prop := formAllRow.holds Try.pinned (OpenSpec.ofChange formAllWrong)

/-- 'coraclelaw04.FormGrows': WHATEVER THE INPUT: true; the input reads as it did. -/
def formGrowsSpec : ChangeSpec := { name := "formGrows", fn := fun _ => fun
  | [d] => { results := [.lit (.bool true)], args := [d] }
  | _ => none }
def formGrowsRow : OpenClaim := { program := "ytmcbifdfpaooaaa", sum := "7f1115f1e84d4649a88e9bbab3ad630fcda65fbf495ca6b47d63e0911a3b0c5e", func := "coracle/coraclelaw04.FormGrows", spec := "formGrows", apart := false }
def FormGrowsSaid : Prop := formGrowsRow.holds Try.pinned (OpenSpec.ofChange formGrowsSpec)

/-- ITS FALSE NEIGHBOUR: 'it returns false'. Refute it at one input. -/
def formGrowsWrong : ChangeSpec := { name := "formGrows", fn := fun _ => fun
  | [d] => { results := [.lit (.bool false)], args := [d] }
  | _ => none }
def FormGrowsWrongFalsely : Prop := formGrowsRow.holds Try.pinned (OpenSpec.ofChange formGrowsWrong)

/-- 'coraclelaw04.FormLater': WHATEVER THE INPUT: true; the input reads as it did. -/
def formLaterSpec : ChangeSpec := { name := "formLater", fn := fun _ => fun
  | [d1, d2, d3] => { results := [.lit (.bool true)], args := [d1, d2, d3] }
  | _ => none }
def formLaterRow : OpenClaim := { program := "ytmcbifdfpaooaaa", sum := "7f1115f1e84d4649a88e9bbab3ad630fcda65fbf495ca6b47d63e0911a3b0c5e", func := "coracle/coraclelaw04.FormLater", spec := "formLater", unfollowed := true, recurses := true, apart := false }
def FormLaterSaid : Prop := formLaterRow.holds Try.pinned (OpenSpec.ofChange formLaterSpec)

/-- ITS FALSE NEIGHBOUR: 'it returns false'. Refute it at one input. -/
def formLaterWrong : ChangeSpec := { name := "formLater", fn := fun _ => fun
  | [d1, d2, d3] => { results := [.lit (.bool false)], args := [d1, d2, d3] }
  | _ => none }
def FormLaterWrongFalsely : Prop := formLaterRow.holds Try.pinned (OpenSpec.ofChange formLaterWrong)

/-- 'coraclelaw04.FormNeeds': WHATEVER THE INPUT: true; the input reads as it did. -/
def formNeedsSpec : ChangeSpec := { name := "formNeeds", fn := fun _ => fun
  | [d1, d2, d3] => { results := [.lit (.bool true)], args := [d1, d2, d3] }
  | _ => none }
def formNeedsRow : OpenClaim := { program := "ytmcbifdfpaooaaa", sum := "7f1115f1e84d4649a88e9bbab3ad630fcda65fbf495ca6b47d63e0911a3b0c5e", func := "coracle/coraclelaw04.FormNeeds", spec := "formNeeds", unfollowed := true, recurses := true, apart := false }
def FormNeedsSaid : Prop := formNeedsRow.holds Try.pinned (OpenSpec.ofChange formNeedsSpec)

/-- ITS FALSE NEIGHBOUR: 'it returns false'. Refute it at one input. -/
def formNeedsWrong : ChangeSpec := { name := "formNeeds", fn := fun _ => fun
  | [d1, d2, d3] => { results := [.lit (.bool false)], args := [d1, d2, d3] }
  | _ => none }
def FormNeedsWrongFalsely : Prop := formNeedsRow.holds Try.pinned (OpenSpec.ofChange formNeedsWrong)

/-- 'coraclelaw04.FormOwn': WHATEVER THE INPUT: true; the input reads as it did. -/
def formOwnSpec : ChangeSpec := { name := "formOwn", fn := fun _ => fun
  | [d1, d2] => { results := [.lit (.bool true)], args := [d1, d2] }
  | _ => none }
def formOwnRow : OpenClaim := { program := "ytmcbifdfpaooaaa", sum := "7f1115f1e84d4649a88e9bbab3ad630fcda65fbf495ca6b47d63e0911a3b0c5e", func := "coracle/coraclelaw04.FormOwn", spec := "formOwn", apart := false }
def FormOwnSaid : Prop := formOwnRow.holds Try.pinned (OpenSpec.ofChange formOwnSpec)

/-- ITS FALSE NEIGHBOUR: 'it returns false'. Refute it at one input. -/
def formOwnWrong : ChangeSpec := { name := "formOwn", fn := fun _ => fun
  | [d1, d2] => { results := [.lit (.bool false)], args := [d1, d2] }
  | _ => none }
def FormOwnWrongFalsely : Prop := formOwnRow.holds Try.pinned (OpenSpec.ofChange formOwnWrong)

/- THE SECOND FORM. 'bulk': how many values and letters a reading holds, each counted each time it is reached (what is shared counts as often as it is met; a slice's spare places count too). A statement '..UptoSaid' is the law's where the arguments, and the package variables that the reading takes, are together of bulk at most 1048576: NARROWER than '..Said'. Prove '..Said' where nothing that the law and all that it calls make is longer than what came in: it says more and counts as full. Else prove '..UptoSaid'. A law counts once. -/
mutual
def uptoBulk {H : Type} : DataW H → Nat
  | .lit (.string bytes) => bytes.length + 1
  | .lit _ => 1
  | .nil => 1
  | .ptr d => uptoBulk d + 1
  | .slice elems spare => uptoBulkAll elems + uptoBulkAll spare + 1
  | .agg parts => uptoBulkAll parts + 1
  | .iface _ d => uptoBulk d + 1
  | .map entries => uptoBulkEntries entries + 1
  | .held _ => 1
def uptoBulkAll {H : Type} : List (DataW H) → Nat
  | [] => 0
  | d :: r => uptoBulk d + uptoBulkAll r
def uptoBulkEntries {H : Type} : List (Lit × DataW H) → Nat
  | [] => 0
  | x :: r => uptoBulkEntry x + uptoBulkEntries r
def uptoBulkEntry {H : Type} : Lit × DataW H → Nat
  | (.string bytes, d) => bytes.length + uptoBulk d + 1
  | (_, d) => uptoBulk d + 1
 end
def uptoSmall : (H : Type) → List (DataW H) → Bool := fun _ ds => decide (uptoBulkAll ds ≤ 1048576)
def OpenSpec.upto (s : _root_.Go.ChangeSpec) : _root_.Go.OpenSpec := { _root_.Go.OpenSpec.ofChange s with cond := some uptoSmall }

/-- 'coraclelaw04.FormAll', WHERE WHAT IT READS IS OF BULK AT MOST 1048576: true; the input reads as it did. -/
def formAllUptoRow : OpenClaim := { program := "ytmcbifdfpaooaaa", sum := "7f1115f1e84d4649a88e9bbab3ad630fcda65fbf495ca6b47d63e0911a3b0c5e", func := "coracle/coraclelaw04.FormAll", spec := "formAll", unfollowed := true, recurses := true, apart := false, narrowed := true }
def FormAllUptoSaid : Prop := formAllUptoRow.holds Try.pinned (OpenSpec.upto formAllSpec)

/-- 'coraclelaw04.FormGrows', WHERE WHAT IT READS IS OF BULK AT MOST 1048576: true; the input reads as it did. -/
def formGrowsUptoRow : OpenClaim := { program := "ytmcbifdfpaooaaa", sum := "7f1115f1e84d4649a88e9bbab3ad630fcda65fbf495ca6b47d63e0911a3b0c5e", func := "coracle/coraclelaw04.FormGrows", spec := "formGrows", apart := false, narrowed := true }
def FormGrowsUptoSaid : Prop := formGrowsUptoRow.holds Try.pinned (OpenSpec.upto formGrowsSpec)

/-- 'coraclelaw04.FormLater', WHERE WHAT IT READS IS OF BULK AT MOST 1048576: true; the input reads as it did. -/
def formLaterUptoRow : OpenClaim := { program := "ytmcbifdfpaooaaa", sum := "7f1115f1e84d4649a88e9bbab3ad630fcda65fbf495ca6b47d63e0911a3b0c5e", func := "coracle/coraclelaw04.FormLater", spec := "formLater", unfollowed := true, recurses := true, apart := false, narrowed := true }
def FormLaterUptoSaid : Prop := formLaterUptoRow.holds Try.pinned (OpenSpec.upto formLaterSpec)

/-- 'coraclelaw04.FormNeeds', WHERE WHAT IT READS IS OF BULK AT MOST 1048576: true; the input reads as it did. -/
def formNeedsUptoRow : OpenClaim := { program := "ytmcbifdfpaooaaa", sum := "7f1115f1e84d4649a88e9bbab3ad630fcda65fbf495ca6b47d63e0911a3b0c5e", func := "coracle/coraclelaw04.FormNeeds", spec := "formNeeds", unfollowed := true, recurses := true, apart := false, narrowed := true }
def FormNeedsUptoSaid : Prop := formNeedsUptoRow.holds Try.pinned (OpenSpec.upto formNeedsSpec)

/-- 'coraclelaw04.FormOwn', WHERE WHAT IT READS IS OF BULK AT MOST 1048576: true; the input reads as it did. -/
def formOwnUptoRow : OpenClaim := { program := "ytmcbifdfpaooaaa", sum := "7f1115f1e84d4649a88e9bbab3ad630fcda65fbf495ca6b47d63e0911a3b0c5e", func := "coracle/coraclelaw04.FormOwn", spec := "formOwn", apart := false, narrowed := true }
def FormOwnUptoSaid : Prop := formOwnUptoRow.holds Try.pinned (OpenSpec.upto formOwnSpec)

end Rows
end Go.Proofs.Ytmcbifdfpaooaaa
