/-
  Maps that are keyed by ints and lie in memory of the call's own: what they hold, as a function.
-/
import Derived.Test.YtmcbifdfpaooaaaWords
import Derived.Maps.OwnSet
namespace Go.Proofs.Ytmcbifdfpaooaaa
open Go.RowKit
open Go.Maps (Keyed int_keyed keyOf_int_mk)

/-- Block b is a map of at most n entries that holds f. -/
def MapI (P : Program) (K : TypeId) (w : World) (b n : Nat) (f : Int → Option Value) : Prop :=
  ∃ D : DataW Value, w.ownsMap P K (fun v => some (.held v, [])) b n D ∧ ∀ i z, D.atKey (.int .i64 i) (.held z) = .held ((f i).getD z) ∧ Maps.has D (.int .i64 i) = (f i).isSome

section
variable {P : Program} {K T E : TypeId} {w w' : World} {b n : Nat} {f : Int → Option Value}

theorem MapI.made (P : Program) (K : TypeId) (w : World) : MapI P K (w.alloc (.map #[] 0)) w.heap.size 0 (fun _ => none) :=
  ⟨.map [], World.ownsMap_made _ _ _ _, fun _ _ => ⟨rfl, rfl⟩⟩
theorem MapI.mono (h : MapI P K w b n f) {m : Nat} (hm : n ≤ m) : MapI P K w b m f := by
  obtain ⟨D, h1, h2⟩ := h
  exact ⟨D, h1.mono hm, h2⟩
theorem MapI.lt (h : MapI P K w b n f) : b < w.heap.size := by
  obtain ⟨D, h1, _⟩ := h
  exact h1.lt
theorem MapI.kept {row : Option Nat} (h : MapI P K w b n f) (hg : w.grownBy w' row) (hne : some b ≠ row) : MapI P K w' b n f := by
  obtain ⟨D, h1, h2⟩ := h
  exact ⟨D, h1.kept hg hne, h2⟩
theorem MapI.alloc (h : MapI P K w b n f) (o : Obj) : MapI P K (w.alloc o) b n f := by
  obtain ⟨D, h1, h2⟩ := h
  exact ⟨D, h1.alloc o, h2⟩
theorem MapI.setCell (h : MapI P K w b n f) {a : Addr} (ha : b ≠ a.block) (u : Value) : MapI P K (w.setCell a u) b n f := by
  obtain ⟨D, h1, h2⟩ := h
  exact ⟨D, h1.setCell ha u, h2⟩
theorem MapI.below {B : Nat} (h : MapI P K w b n f) (hb : Below B w w') (hB : b < B) : MapI P K w' b n f := by
  obtain ⟨D, ⟨es, clock, hh, F, hs, hD⟩, h2⟩ := h
  exact ⟨D, ⟨es, clock, (hb.block b hB).trans hh, F, hs, hD⟩, h2⟩
theorem MapI.drew (h : MapI P K w b n f) : MapI P K w.drew b n f := h

theorem wf_int {i : Int} (h0 : -9223372036854775808 ≤ i) (h1 : i ≤ 9223372036854775807) : (Lit.int .i64 i).wf = true := WalkArith.wf_i64 (by omega)

/-- 'm[k]'. -/
theorem MapI.look (h : MapI P K w b n f) (hK : P.underlying K = some (.int .i64)) (hT : P.underlying T = some (.map K E)) {z : Value} (hz : (zeroValue E).run P w = .ok z w) {i : Int} (h0 : -9223372036854775808 ≤ i) (h1 : i ≤ 9223372036854775807) :
    (Instr.lookup T (.map (some b)) (.int .i64 i) false).run P w = .ok ((f i).getD z) w := by
  obtain ⟨D, hD, hf⟩ := h
  obtain ⟨v, ps, hrun, hv⟩ := hD.lookup (int_keyed hK) hT hz (zd := .held z) (zp := []) rfl (keyOf_int_mk hK (wf_int h0 h1))
  rw [(hf i z).1] at hv
  simp only [Option.some.injEq, Prod.mk.injEq, DataW.held.injEq] at hv
  rw [hrun, hv.1]
/-- 'v, ok := m[k]'. -/
theorem MapI.look_ok (h : MapI P K w b n f) (hK : P.underlying K = some (.int .i64)) (hT : P.underlying T = some (.map K E)) {z : Value} (hz : (zeroValue E).run P w = .ok z w) {i : Int} (h0 : -9223372036854775808 ≤ i) (h1 : i ≤ 9223372036854775807) :
    (Instr.lookup T (.map (some b)) (.int .i64 i) true).run P w = .ok (.tuple #[(f i).getD z, .bool (f i).isSome]) w := by
  obtain ⟨D, hD, hf⟩ := h
  obtain ⟨v, ps, hrun, hv⟩ := hD.look_ok (int_keyed hK) hT hz (zd := .held z) (zp := []) rfl (keyOf_int_mk hK (wf_int h0 h1))
  rw [(hf i z).1] at hv
  simp only [Option.some.injEq, Prod.mk.injEq, DataW.held.injEq] at hv
  rw [hrun, hv.1, (hf i z).2]
/-- What a map holds behind a store. -/
def upd (f : Int → Option Value) (i : Int) (v : Value) : Int → Option Value := fun j => if j = i then some v else f j
theorem MapI.update (h : MapI P K w b n f) (hK : P.underlying K = some (.int .i64)) (hT : P.underlying T = some (.map K E)) (hn : n < maxLen) {i : Int} (h0 : -9223372036854775808 ≤ i) (h1 : i ≤ 9223372036854775807) (v : Value) :
    ∃ w', (Instr.mapUpdate T (.map (some b)) (.int .i64 i) v).run P w = .ok () w' ∧ MapI P K w' b (n + 1) (upd f i v) ∧ w.grownBy w' (some b) := by
  obtain ⟨D, hD, hf⟩ := h
  obtain ⟨w', hrun, hD', hg⟩ := hD.update (int_keyed hK) hT hn (val := v) (d := .held v) (ps := []) (keyOf_int_mk hK (wf_int h0 h1)) rfl
  refine ⟨w', hrun, ⟨_, hD', fun j z => ?_⟩, hg⟩
  by_cases hj : j = i
  · subst hj
    rw [Maps.atKey_put_same (k := .int .i64 j) hD.isMap True.intro, Maps.has_put_same (k := .int .i64 j) hD.isMap True.intro]
    simp [upd]
  · have hne : (Lit.int .i64 j) ≠ (Lit.int .i64 i) := fun e => hj (by injection e)
    rw [Maps.atKey_put_other hne, Maps.has_put_other hne, (hf j z).1, (hf j z).2]
    simp [upd, hj]
end

/-- 'm[k] = v' at the operation. -/
theorem wpList_store_map {P : Program} (w : World) {ops : Array Oper} {rest : List Oper} {o : Oper} {a : Act} {Q : Exit → Act → World → Prop} (hg : o.guard = none) (m x v : Operand) (T : TypeId) (hop : o.op = Op.mapUpdate T m x v)
    (K E : TypeId) (hK : P.underlying K = some (.int .i64)) (hT : P.underlying T = some (.map K E)) (b n : Nat) (f : Int → Option Value) (h : MapI P K w b n f) (hn : n < maxLen) (i : Int) (h0 : -9223372036854775808 ≤ i) (h1 : i ≤ 9223372036854775807) (u : Value)
    (hm : a.eval m = .map (some b)) (hx : a.eval x = .int .i64 i) (hv : a.eval v = u)
    (hQ : ∀ w', MapI P K w' b (n + 1) (upd f i u) → w.grownBy w' (some b) → wpList P ops Q rest (a.put o.dst undef) w') :
    wpList P ops Q (o :: rest) a w := by
  refine wpList_plain hg fun K' hK' => ?_
  obtain ⟨w', hrun, r1, r2⟩ := h.update hK hT hn h0 h1 u
  unfold Oper.wp
  simp [execOp, hop, hm, hx, hv, hrun, Result.andThen]
  exact hK' _ _ (hQ w' r1 r2)
end Go.Proofs.Ytmcbifdfpaooaaa
