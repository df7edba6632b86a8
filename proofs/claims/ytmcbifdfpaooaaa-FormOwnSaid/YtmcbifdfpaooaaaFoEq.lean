/-
  Two specs compared.
-/
import Derived.Test.YtmcbifdfpaooaaaFoSpecs
namespace Go.Proofs.Ytmcbifdfpaooaaa
open Go.RowKit
open Fo (Spc)

set_option maxRecDepth 100000 in
theorem eq_spec (s t : Spc) (w : World) : (Op.equalIn 10000 33 (.agg #[.int .i64 s.num, .int .i64 s.wire, .int .i64 s.since, .bool s.need, .bool s.many]) (.agg #[.int .i64 t.num, .int .i64 t.wire, .int .i64 t.since, .bool t.need, .bool t.many])).run Try.prog w = .ok (decide (s = t)) w := by
  have hst : Try.prog.stoodInHeld 33 = false := by kernel_rfl
  have hfo : Try.prog.underlying 33 = some (.struct (Try.prog.fieldsOf 33)) := by kernel_rfl
  rw [run_equalIn_agg w 9999 33 _ _ hfo hst]
  unfold Program.fieldsOf
  rw [Try.underlying33]
  obtain ⟨a, b, c, d, e⟩ := s
  obtain ⟨a', b', c', d', e'⟩ := t
  go_simp
  repeat' split
  all_goals simp_all
theorem guard_spec : Try.prog.eqGuardType Try.prog.depth 33 = false := by kernel_rfl
theorem spec_if {s t : Spc} {D : Bool} (h : decide (s = t) = D) (w : World) : (if s.num = t.num then
      if s.wire = t.wire then
        if s.since = t.since then
          if s.need = t.need then
            if s.many = t.many then Result.ok (Next.value (Value.bool false)) w
            else Result.ok (Next.value (Value.bool true)) w
          else Result.ok (Next.value (Value.bool true)) w
        else Result.ok (Next.value (Value.bool true)) w
      else Result.ok (Next.value (Value.bool true)) w
    else Result.ok (Next.value (Value.bool true)) w) = Result.ok (Next.value (Value.bool !D)) w := by
  subst h
  obtain ⟨a, b, c, d, e⟩ := s
  obtain ⟨a', b', c', d', e'⟩ := t
  simp only [Spc.mk.injEq]
  repeat' split
  all_goals simp_all
end Go.Proofs.Ytmcbifdfpaooaaa
