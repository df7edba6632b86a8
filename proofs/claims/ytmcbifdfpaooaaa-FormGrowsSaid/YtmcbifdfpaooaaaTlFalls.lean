/-
  The walk of the reference's falls.
-/
import Derived.Test.YtmcbifdfpaooaaaTlMem
namespace Go.Proofs.Ytmcbifdfpaooaaa
open Go.RowKit
open Tl (Fel)

/-- A field as a value. -/
def aggOf (f : Fel) (s : Option Addr × Nat) : Value := .agg #[.int .i64 f.num, .int .i64 f.wire, .int .u64 (f.n : Int), .slice s.1 f.b.length s.2]

set_option maxHeartbeats 1000000 in
set_option maxRecDepth 100000 in
theorem falls_any (a b : Fel) (s t : Option Addr × Nat) (w : World) :
    Calls Try.prog 23 #[aggOf a s, aggOf b t] w fun e w' => e = .returned (.bool (Tl.falls a b)) ∧ Below w.heap.size w w' := by
  unfold aggOf
  by_cases h1 : b.num < a.num
  · have hf : Tl.falls a b = true := by simp [Tl.falls, h1]
    have HF := Lib.hid hf
    clear hf
    go_enter Try.func23, Try.ntmps23
    go_wp2_with fail
    go_ret
    exact ⟨by rw [HF.out]; rfl, ((Below.refl _ _).alloc (Nat.le_refl _) _).alloc (by simp) _⟩
  · by_cases h2 : b.num = a.num
    · by_cases h3 : a.wire = 2
      · by_cases h4 : b.wire = 2
        · have hf : Tl.falls a b = false := by simp [Tl.falls, h1, h2, h3, h4]
          have HF := Lib.hid hf
          have q2 : (b.num == a.num) = true := by rw [h2]; simp
          have q3 : (a.wire != 2) = false := by rw [h3]; rfl
          have q4 : (b.wire != 2) = false := by rw [h4]; rfl
          clear hf h2 h3 h4
          go_enter Try.func23, Try.ntmps23
          go_wp2_with fail
          go_ret
          exact ⟨by rw [HF.out]; rfl, ((Below.refl _ _).alloc (Nat.le_refl _) _).alloc (by simp) _⟩
        · have hf : Tl.falls a b = true := by simp [Tl.falls, h2, h4]
          have HF := Lib.hid hf
          have q2 : (b.num == a.num) = true := by rw [h2]; simp
          have q3 : (a.wire != 2) = false := by rw [h3]; rfl
          have q4 : (b.wire != 2) = true := by rw [bne_iff_ne]; exact h4
          clear hf h2 h3 h4
          go_enter Try.func23, Try.ntmps23
          go_wp2_with fail
          go_ret
          exact ⟨by rw [HF.out]; rfl, ((Below.refl _ _).alloc (Nat.le_refl _) _).alloc (by simp) _⟩
      · have hf : Tl.falls a b = true := by simp [Tl.falls, h2, h3]
        have HF := Lib.hid hf
        have q2 : (b.num == a.num) = true := by rw [h2]; simp
        have q3 : (a.wire != 2) = true := by rw [bne_iff_ne]; exact h3
        clear hf h2 h3
        go_enter Try.func23, Try.ntmps23
        go_wp2_with fail
        go_ret
        exact ⟨by rw [HF.out]; rfl, ((Below.refl _ _).alloc (Nat.le_refl _) _).alloc (by simp) _⟩
    · have hf : Tl.falls a b = false := by simp [Tl.falls, h1, h2]
      have HF := Lib.hid hf
      have q2 : (b.num == a.num) = false := by rw [beq_eq_false_iff_ne]; exact h2
      clear hf h2
      go_enter Try.func23, Try.ntmps23
      go_wp2_with fail
      go_ret
      exact ⟨by rw [HF.out]; rfl, ((Below.refl _ _).alloc (Nat.le_refl _) _).alloc (by simp) _⟩
end Go.Proofs.Ytmcbifdfpaooaaa
