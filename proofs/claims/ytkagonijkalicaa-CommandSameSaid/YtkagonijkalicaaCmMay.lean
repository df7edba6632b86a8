/-
  A command in memory.
-/
import Derived.Test.YtkagonijkalicaaCmUn
import Derived.Test.YtkagonijkalicaaInts
set_option linter.unusedVariables false
set_option linter.unusedSimpArgs false
namespace Go.Proofs.Ytkagonijkalicaa
open Go.RowKit
open Cm (Cmd inR inR_iff need needs row mayC mayNum mayChunks mayText foreignC forNum forChunks forText need_bound)

/-- A command's cells: its numbers lie at s. -/
def cblk (c : Cmd) (s : Option Addr × Nat) : Array Value := #[.int .i64 c.kind, .int .i64 c.client, .int .i64 c.seq, .int .i64 c.set, .int .i64 c.id, .int .i64 c.n, .slice s.1 c.chunks.length s.2, .string (strOf c.text)]
def cagg (c : Cmd) (s : Option Addr × Nat) : Value := .agg (cblk c s)
def RdC (w : World) (B : Nat) (c : Cmd) (s : Option Addr × Nat) : Prop := Rd w B 1 s.1 c.chunks.length (ivs c.chunks) ∧ c.chunks.length ≤ s.2 ∧ s.2 ≤ 9223372036854775807
theorem RdC.below {w w' : World} {B : Nat} {c : Cmd} {s : Option Addr × Nat} (h : RdC w B c s) (hb : Below B w w') : RdC w' B c s := ⟨h.1.below hb, h.2⟩
theorem RdC.more {w : World} {B B' : Nat} {c : Cmd} {s : Option Addr × Nat} (h : RdC w B c s) (hb : B ≤ B') : RdC w B' c s := ⟨h.1.more hb, h.2⟩
theorem RdC.no (w : World) (B : Nat) : RdC w B Cm.noCmd (none, 0) := ⟨Rd.nil _ _ _ _, Nat.le_refl _, by simp⟩
/-- What a command of the program may hold. -/
def Cok (c : Cmd) : Prop := (I64 c.kind ∧ I64 c.client ∧ I64 c.seq ∧ I64 c.set ∧ I64 c.id ∧ I64 c.n) ∧ (∀ x ∈ c.chunks, I64 x) ∧ (∀ b ∈ c.text, b < 256) ∧ c.chunks.length ≤ 20000 ∧ c.text.length ≤ 20000
theorem cblk_cells {w : World} {g : Nat} {t : TypeId} {c : Cmd} {s : Option Addr × Nat} (h : Blk w g t (cblk c s)) :
    w.cell? ⟨g, 0, none⟩ = some (.int .i64 c.kind) ∧ w.cell? ⟨g, 1, none⟩ = some (.int .i64 c.client) ∧ w.cell? ⟨g, 2, none⟩ = some (.int .i64 c.seq) ∧ w.cell? ⟨g, 3, none⟩ = some (.int .i64 c.set) ∧ w.cell? ⟨g, 4, none⟩ = some (.int .i64 c.id) ∧
    w.cell? ⟨g, 5, none⟩ = some (.int .i64 c.n) ∧ w.cell? ⟨g, 6, none⟩ = some (.slice s.1 c.chunks.length s.2) ∧ w.cell? ⟨g, 7, none⟩ = some (.string (strOf c.text)) :=
  ⟨(h.cell 0).trans rfl, (h.cell 1).trans rfl, (h.cell 2).trans rfl, (h.cell 3).trans rfl, (h.cell 4).trans rfl, (h.cell 5).trans rfl, (h.cell 6).trans rfl, (h.cell 7).trans rfl⟩
/-- The box of a command that was handed in. -/
theorem box_cmd (w : World) (c : Cmd) (s : Option Addr × Nat) (t : TypeId) : ∃ w0 : World, w0 = w.alloc (.cells (cblk c s) t) ∧ Blk w0 w.heap.size t (cblk c s) ∧ Below w.heap.size w w0 ∧ w.heap.size < w0.heap.size :=
  ⟨_, rfl, Blk.new _ _ _, (Below.refl _ _).alloc (Nat.le_refl _) _, by simp⟩

end Go.Proofs.Ytkagonijkalicaa
