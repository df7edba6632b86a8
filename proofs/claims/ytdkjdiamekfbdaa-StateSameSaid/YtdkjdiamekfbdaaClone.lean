/-
  The walk of slices.Clone of numbers.
-/
import Derived.Test.YtdkjdiamekfbdaaNums
import Derived.Deep.DeepCutAuto
import Derived.BigQuiet
namespace Go.Proofs.Ytdkjdiamekfbdaa
open Go.RowKit

theorem nil_no (ad : Addr) (n c : Nat) (w : World) : (binOp BinOp.eql 36 (.slice (some ad) n c) (.slice none 0 0)).run Try.prog w = .ok (.bool false) w := by kernel_rfl
theorem nil_yes (c : Nat) (w : World) : (binOp BinOp.eql 36 (.slice none 0 c) (.slice none 0 0)).run Try.prog w = .ok (.bool true) w := by kernel_rfl

set_option maxHeartbeats 1000000 in
set_option maxRecDepth 100000 in
theorem clone_ints (A : Option Addr) (n c : Nat) (l : List Int) (w : World) (h : Rd w w.heap.size 1 A n (ivs l)) (hnc : n ≤ c) (_hmax : c ≤ 9223372036854775807) (hn : n ≤ 1000000000) :
    Calls Try.prog 48 #[.slice A n c] w fun e w' => ∃ v, e = .returned v ∧ w'.ownsRow w.heap.size 3 1 v n (ivs l) ∧ Below w.heap.size w w' := by
  obtain ⟨i0, hi, hz0, hz1, hz2⟩ := info_parts int_info
  have hlen : l.length = n := by have := h.1; rw [ivs_len] at this; omega
  have HR := Lib.hid h
  have HL := Lib.hid hlen
  cases A with
  | none =>
    obtain rfl : n = 0 := by
      rcases h.2 with h0 | ⟨ad, hA, _⟩
      · exact h0
      · cases hA
    obtain rfl : l = [] := List.length_eq_zero_iff.1 hlen
    have hq := nil_yes c w
    clear h hlen
    go_enter Try.func48, Try.ntmps48
    go_wp2
    go_ret
    exact ⟨_, rfl, World.ownsRow_nil _ _ _ _, Below.refl _ _⟩
  | some ad =>
    have hq := nil_no ad n c w
    clear h hlen
    go_enter Try.func48, Try.ntmps48
    go_wp2_with (at_builtin; refine wpList_append_rd _ rfl (.tmp 5) (.tmp 6) 36 rfl w.heap.size 3 i0 (.int .i64 0) 1 8 Try.underlying36 hi hz0 hz1 hz2 rfl (by decide) _ 0 [] rfl (World.ownsRow_made (e := 3) (size := 1) (base := w.heap.size) w #[] 0 (Nat.le_refl _) (by unfold maxLen; omega) rfl) w.heap.size (some ad) n c (ivs l) rfl (HR.out.alloc (Nat.le_refl _) _) (ivs_one l) (by unfold maxLen; omega) (by omega) (by simp) ?_)
    intro v3 w3 hown3 hg3
    have hb3 : Below w.heap.size w w3 := ((Below.refl _ _).alloc (Nat.le_refl _) _).grown hg3 (by simp) (fun k hk => by simp [Value.ownBlock] at hk; omega)
    have HO3 := Lib.hid hown3
    clear hown3 hg3
    go_wp2
    go_ret
    exact ⟨_, rfl, HO3.out, hb3⟩
end Go.Proofs.Ytdkjdiamekfbdaa
