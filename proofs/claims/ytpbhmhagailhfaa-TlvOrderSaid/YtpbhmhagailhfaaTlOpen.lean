/-
  A field by value that came in as an argument.
-/
import Derived.Test.YtpbhmhagailhfaaTlLongW
namespace Go.Proofs.Ytpbhmhagailhfaa
open Go.ChangeShapes Go.WideShapes Go.ChangeAt Go.RowKit
open Tl (Fel)

section
variable {H : Type} {enc : TypeId × Value → H} {P : Program}
theorem open_field {t te : TypeId} {f0 f1 f2 f3 : Field} {r : Reach} {b0 : Nat} {w : World} {v : Value} {d : DataW H} {ps : List MemPlace} (hs : P.underlying t = some (.struct #[f0, f1, f2, f3])) (hone : Deep.oneCellFields P #[f0, f1, f2, f3] = true) (hC : P.cellsOf t = 4)
    (h0 : P.underlying f0.type = some (.int .i64)) (h1 : P.underlying f1.type = some (.int .i64)) (h2 : P.underlying f2.type = some (.int .u64)) (h3 : P.underlying f3.type = some (.slice te)) (hte : P.underlying te = some (.int .u8)) (hce : P.cellsOf te = 1)
    (hval : Value.okWide P w r b0 t v) (h : DataW.Trod enc P w 0 (fun _ => true) true t v d ps) :
    ∃ (f : Fel) (s : Option Addr × Nat), v = aggOf f s ∧ Rd w w.heap.size 1 s.1 f.b.length (bvs f.b) ∧ f.b.length ≤ s.2 ∧ s.2 ≤ 9223372036854775807 ∧ Fin f := by
  obtain ⟨v0, v1, v2, v3, y0, y1, y2, y3, m, rfl, _, _, g0, g1, g2, g3⟩ := Joins.open_agg4 hs hone hC hval h
  obtain ⟨z0, q0, _, w0⟩ := DataW.trod_int h0 g0
  obtain ⟨z1, q1, _, w1⟩ := DataW.trod_int h1 g1
  obtain ⟨z2, q2, _, w2⟩ := DataW.trod_int h2 g2
  obtain ⟨A', n', c', bs, rfl, hn', hc', hb', hr'⟩ := open_bytes_in h3 hte hce g3
  simp at q0 q1 q2
  subst q0 q1 q2
  have b0 : -9223372036854775808 ≤ z0 ∧ z0 ≤ 9223372036854775807 := by simpa [Lit.wf, IntKind.min, IntKind.max, IntKind.signed, IntKind.bits] using w0
  have b1 : -9223372036854775808 ≤ z1 ∧ z1 ≤ 9223372036854775807 := by simpa [Lit.wf, IntKind.min, IntKind.max, IntKind.signed, IntKind.bits] using w1
  have b2 : 0 ≤ z2 ∧ z2 ≤ 18446744073709551615 := by simpa [Lit.wf, IntKind.min, IntKind.max, IntKind.signed, IntKind.bits] using w2
  have hlen : bs.length = n' := by have := hr'.1; rw [bvs_len] at this; omega
  subst hlen
  exact ⟨⟨z0, z1, z2.toNat, bs⟩, (A', c'), by simp [aggOf, Int.toNat_of_nonneg b2.1], hr', hn', hc', ⟨by show z2.toNat < _; omega, hb'⟩, b0.1, b0.2, b1.1, b1.2⟩
end
end Go.Proofs.Ytpbhmhagailhfaa
