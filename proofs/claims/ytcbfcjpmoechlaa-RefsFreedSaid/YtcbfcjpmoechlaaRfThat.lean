/-
  The walks of the landed chunksThat, and of the closures that it asks.
-/
import Derived.Test.YtcbfcjpmoechlaaRfArr
import Derived.Deep.DeepCutAuto
import Derived.BigQuiet
set_option linter.unusedVariables false
set_option linter.unusedSimpArgs false
namespace Go.Proofs.Ytcbfcjpmoechlaa
open Go.RowKit

def thatN (p : Nat → Bool) (n : Nat) : List Int := ((List.range n).filter p).map fun i : Nat => (i : Int) + 1
theorem thatN_succ (p : Nat → Bool) (n : Nat) : thatN p (n + 1) = thatN p n ++ if p n then [(n : Int) + 1] else [] := by
  unfold thatN
  rw [List.range_succ, List.filter_append, List.map_append]
  cases h : p n <;> simp [h]
theorem thatN_len (p : Nat → Bool) (n : Nat) : (thatN p n).length ≤ n := by
  unfold thatN
  rw [List.length_map]
  exact Nat.le_trans (List.length_filter_le _ _) (by simp)

set_option maxHeartbeats 1000000 in
set_option maxRecDepth 100000 in
theorem that_r (k : Nat) (caps : Array Value) (p : Nat → Bool) (w : World) (hen : ∀ (args : Array Value) (w : World), (callFunc k args).run Try.prog w = .ok (.enter k args) w)
    (hcl : ∀ (wr : World) (j : Nat), Below w.heap.size w wr → j < 64 → Calls Try.prog k (#[.int .i64 ((j : Int) + 1)] ++ caps) wr fun e w' => e = .returned (.bool (p j)) ∧ wr = w') :
    Calls Try.prog 25 #[.func (.func k) #[] caps] w fun e w' => ∃ A c, e = .returned (.slice A (thatN p 64).length c) ∧ NewNums w' (thatN p 64) (.slice A (thatN p 64).length c) ∧ Below w.heap.size w w' := by
  obtain ⟨i0, hi, hz0, hz1, hz2⟩ := info_parts int_info
  have HC := Lib.hid hcl
  clear hcl
  go_enter Try.func25, Try.ntmps25
  go_wp2
  go_loopw [3, 4] (fun v i wr => ∃ j m : Nat, j ≤ 64 ∧ m ≤ j ∧ i = .int .i64 ((j : Int) + 1) ∧ (thatN p j).length = m ∧ wr.ownsRow w.heap.size 3 1 v m (ivs (thatN p j)) ∧ Below w.heap.size w wr) (fun _ i _ => 66 - (intOf i).toNat)
  case atStart => exact ⟨0, 0, by omega, by omega, rfl, rfl, World.ownsRow_nil _ _ _ _, Below.refl _ _⟩
  case round =>
    obtain ⟨j, m, hj, hmj, rfl, hlen, hown, hb⟩ := hrel
    have HO := Lib.hid hown
    have HLN := Lib.hid hlen
    have hsz := hb.size
    clear hown hlen
    by_cases hlt : j < 64
    · have hE := thatN_succ p j
      have HCC := Lib.hid (HC.out wr j hb hlt)
      clear HC
      cases hp : p j with
      | true =>
        rw [hp] at hE HCC
        have HE := Lib.hid (show thatN p (j + 1) = thatN p j ++ [(j : Int) + 1] by rw [hE]; rfl)
        clear hE hp
        go_wp2_with fail
        refine HCC.out.mono ?_
        rintro _ _ ⟨rfl, rfl⟩
        go_wp2_with (at_builtin; refine wpList_append_rd _ rfl (.tmp 12) (.tmp 14) 23 rfl w.heap.size 3 i0 (.int .i64 0) 1 8 Try.underlying23 hi hz0 hz1 hz2 rfl (by decide) _ m _ rfl (HO.out.alloc _) (wr.heap.size + 1) (some ⟨wr.heap.size, 0, none⟩) 1 1 [.int .i64 ((j : Int) + 1)] rfl (rd_new wr [.int .i64 ((j : Int) + 1)] 3) (ivs_one [(j : Int) + 1]) (by unfold maxLen; omega) (by omega) (by simp; omega) ?_)
        intro v3 w3 hown3 hg3
        have hb3 : Below w.heap.size w w3 := (hb.alloc hsz _).grown hg3 (by simp; omega) (fun k hk => (HO.out.lt k hk).1)
        clear hg3
        go_wp2
        go_roundw
        case rel => exact ⟨j + 1, m + 1, by omega, by omega, by go_num, by rw [HE.out, List.length_append, HLN.out]; rfl, by rw [HE.out, ivs_app]; exact hown3, hb3⟩
        case measure => simp [intOf]; omega
      | false =>
        rw [hp] at hE HCC
        have HE := Lib.hid (show thatN p (j + 1) = thatN p j by rw [hE]; simp)
        clear hE hp
        go_wp2_with fail
        refine HCC.out.mono ?_
        rintro _ _ ⟨rfl, rfl⟩
        go_wp2
        go_roundw
        case rel => exact ⟨j + 1, m, by omega, by omega, by go_num, by rw [HE.out, HLN.out], by rw [HE.out]; exact HO.out, hb⟩
        case measure => simp [intOf]; omega
    · obtain rfl : j = 64 := by omega
      obtain ⟨A, c, rfl, hc1, hc2⟩ := slice_of_own HO.out
      have hN := nums_of_own (l := thatN p 64) (by rw [HLN.out]; exact HO.out)
      have HN := Lib.hid hN
      clear hN
      go_wp2
      go_ret
      exact ⟨A, c, by rw [HLN.out]; rfl, by rw [HLN.out]; exact HN.out, hb⟩
end Go.Proofs.Ytcbfcjpmoechlaa
