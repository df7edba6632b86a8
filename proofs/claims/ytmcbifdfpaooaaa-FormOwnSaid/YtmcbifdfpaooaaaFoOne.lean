/-
  The walks of the landed forms' need, many, from.
-/
import Derived.Test.YtmcbifdfpaooaaaFoRef
namespace Go.Proofs.Ytmcbifdfpaooaaa
open Go.RowKit
open Fo (Spc specAll specs inv top)

set_option maxRecDepth 100000 in
theorem need_any (n k s : Int) (nd m : Bool) (w : World) : Calls Try.prog 25 #[.agg #[.int .i64 n, .int .i64 k, .int .i64 s, .bool nd, .bool m]] w fun e w' => e = .returned (.agg #[.int .i64 n, .int .i64 k, .int .i64 s, .bool true, .bool m]) ∧ Below w.heap.size w w' := by
  go_enter Try.func25, Try.ntmps25
  go_wp2
  (try simp only [Exit.inBlock, Exit.then])
  exact bodyPost_ret (results_cell_row rfl _ _ (w.heap.size + 1) 33 #[.int .i64 n, .int .i64 k, .int .i64 s, .bool true, .bool m] (0, 0) _ rfl (by simpa using heap_alloc_new (w.alloc (.cells #[.int .i64 n, .int .i64 k, .int .i64 s, .bool true, .bool m] 33)) _) Try.underlying33 rfl (by kernel_rfl)) rfl ⟨rfl, ((Below.refl _ _).alloc (Nat.le_refl _) _).alloc (by simp) _⟩
set_option maxRecDepth 100000 in
theorem many_any (n k s : Int) (nd m : Bool) (w : World) : Calls Try.prog 27 #[.agg #[.int .i64 n, .int .i64 k, .int .i64 s, .bool nd, .bool m]] w fun e w' => e = .returned (.agg #[.int .i64 n, .int .i64 k, .int .i64 s, .bool nd, .bool true]) ∧ Below w.heap.size w w' := by
  go_enter Try.func27, Try.ntmps27
  go_wp2
  (try simp only [Exit.inBlock, Exit.then])
  exact bodyPost_ret (results_cell_row rfl _ _ (w.heap.size + 1) 33 #[.int .i64 n, .int .i64 k, .int .i64 s, .bool nd, .bool true] (0, 0) _ rfl (by simpa using heap_alloc_new (w.alloc (.cells #[.int .i64 n, .int .i64 k, .int .i64 s, .bool nd, .bool true] 33)) _) Try.underlying33 rfl (by kernel_rfl)) rfl ⟨rfl, ((Below.refl _ _).alloc (Nat.le_refl _) _).alloc (by simp) _⟩
set_option maxRecDepth 100000 in
theorem from_any (v n k s : Int) (nd m : Bool) (w : World) : Calls Try.prog 26 #[.int .i64 v, .agg #[.int .i64 n, .int .i64 k, .int .i64 s, .bool nd, .bool m]] w fun e w' => e = .returned (.agg #[.int .i64 n, .int .i64 k, .int .i64 v, .bool nd, .bool m]) ∧ Below w.heap.size w w' := by
  go_enter Try.func26, Try.ntmps26
  go_wp2
  (try simp only [Exit.inBlock, Exit.then])
  exact bodyPost_ret (results_cell_row rfl _ _ (w.heap.size + 1) 33 #[.int .i64 n, .int .i64 k, .int .i64 v, .bool nd, .bool m] (0, 0) _ rfl (by simpa using heap_alloc_new (w.alloc (.cells #[.int .i64 n, .int .i64 k, .int .i64 v, .bool nd, .bool m] 33)) _) Try.underlying33 rfl (by kernel_rfl)) rfl ⟨rfl, ((Below.refl _ _).alloc (Nat.le_refl _) _).alloc (by simp) _⟩
end Go.Proofs.Ytmcbifdfpaooaaa
