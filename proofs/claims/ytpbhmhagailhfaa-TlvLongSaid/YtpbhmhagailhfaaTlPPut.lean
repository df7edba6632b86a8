/-
  The walk of the landed tlv.Put: a row of fields, laid down.
-/
import Derived.Test.YtpbhmhagailhfaaTlPMay
namespace Go.Proofs.Ytpbhmhagailhfaa
open Go.RowKit
open Tl (Fel mayGo may flat fit putRow)

set_option maxHeartbeats 4000000 in
set_option maxRecDepth 100000 in
theorem put_row (A : Option Addr) (n c : Nat) (l : List Fel) (S : List (Option Addr × Nat)) (w : World) (h : RdF w w.heap.size A n l S) (hnc : n ≤ c) (hmax : c ≤ 9223372036854775807) (hn : n ≤ 20000) (hw : ∀ f ∈ l, Fok f) :
    Calls Try.prog 12 #[.slice A n c] w (NewPair w (putRow l).1 ((putRow l).2 : Nat)) := by
  obtain ⟨i0, hi, hz0, hz1, hz2⟩ := info_parts byte_info
  obtain ⟨m, hm⟩ : ∃ m, may l = m := ⟨_, rfl⟩
  have hput : putRow l = if m ≠ 0 then ([], m) else (flat l, 0) := by unfold putRow; rw [hm]
  have hm5 : m ≤ 5 := by have := Tl.may_err l; omega
  have HM := Lib.hid hm
  have HP := Lib.hid hput
  have HR := Lib.hid h
  have HN := Lib.hid h.1
  have HW := Lib.hid hw
  have hcall := may_row A n c l S w h hnc hmax hn hw
  rw [hm] at hcall
  have HC := Lib.hid hcall
  clear h hw hm hput hcall
  by_cases h0 : m = 0
  · have hp := HP.out
    rw [if_neg (by omega)] at hp
    rw [hp]
    have hfit : ∀ f ∈ l, fit f = true := fun f hf => (Tl.mayGo_fit (Tl.may_zero.1 (by rw [HM.out, h0])).1 f hf).1
    have HFT := Lib.hid hfit
    clear hp HP HM hfit
    subst h0
    go_enter Try.func12, Try.ntmps12
    go_wp2_with fail
    refine HC.out.mono ?_
    rintro e w1 ⟨rfl, hb1⟩
    have hsz1 := hb1.size
    go_wp2
    go_loopw [5, 17] (fun v i wr => ∃ (k m : Nat), k ≤ n ∧ i = .int .i64 (k : Int) ∧ m ≤ 17012 * k ∧ (flat (l.take k)).length = m ∧ wr.ownsRow w.heap.size 5 1 v m (bvs (flat (l.take k))) ∧ Below w.heap.size w wr) (fun _ i _ => n - (intOf i).toNat)
    case atStart => exact ⟨0, 0, Nat.zero_le _, rfl, by omega, by simp [flat], World.ownsRow_nil _ _ _ _, hb1⟩
    case round =>
      obtain ⟨k, m, hk, rfl, hmk, hml, hown, hb⟩ := hrel
      have HO := Lib.hid hown
      have HML := Lib.hid hml
      have hsz := hb.size
      clear hown hml
      by_cases hlt : k < n
      · obtain ⟨ad, f, s, rfl, hab, hf, hs, r0, r1, r2, r3, hrd, hs1, hs2⟩ := (HR.out.below hb).spell hlt
        have hok := HW.out f (List.mem_of_getElem? hf)
        have hft := HFT.out f (List.mem_of_getElem? hf)
        have hb17 := hok.2.2.2.2.2
        obtain ⟨w3, hw3⟩ : ∃ w3 : World, w3 = wr.alloc (.cells #[.int .i64 f.num, .int .i64 f.wire, .int .u64 (f.n : Int), .slice s.1 f.b.length s.2] 39) := ⟨_, rfl⟩
        have hk3 : Blk w3 wr.heap.size 39 (fblk f s) := by rw [hw3]; exact Blk.new _ _ _
        have hb3 : Below wr.heap.size wr w3 := by rw [hw3]; exact (Below.refl _ _).alloc (Nat.le_refl _) _
        have hs3 : wr.heap.size < w3.heap.size := hk3.lt
        have HK3 := Lib.hid hk3
        have HW3 := Lib.hid hw3
        have e1 : flat (l.take (k + 1)) = flat (l.take k) ++ headOf f ++ f.b := by rw [flat_snoc hf, one_head hft, List.append_assoc]
        have hcall := head_any f s w3 hok hs1 hs2
        rw [if_pos hft] at hcall
        obtain ⟨hl, hhl⟩ : ∃ hl, (headOf f).length = hl := ⟨_, rfl⟩
        have hl12 := headOf_small f
        rw [hhl] at hl12
        have HHL := Lib.hid hhl
        have HC3 := Lib.hid hcall
        have HE := Lib.hid e1
        have HRD := Lib.hid hrd
        clear hhl hcall hw3 hk3 e1 hok hft hf hs hrd
        go_wp2_with fail
        rw [← HW3.out]
        refine HC3.out.mono ?_
        rintro e w5 ⟨v5, rfl, hown5, hb5⟩
        rw [HHL.out] at hown5
        obtain ⟨A5, c5, rfl, _, _⟩ := slice_of_own hown5
        have hk5 := HK3.out.below hb5 hs3
        have hlt5 := hk5.lt
        have hb35 := hb3.trans (hb5.mono hb3.size)
        have hbw5 := hb.trans (hb35.mono hsz)
        have HK5 := Lib.hid hk5
        have HO5 := Lib.hid (own_below HO.out hb35)
        have hsz5 := hbw5.size
        have hr5 := Rd.of_own hown5
        have HR5 := Lib.hid hr5
        clear hown5 hb5 HK3 HW3 hk5 hr5
        go_wp2_with (at_builtin; refine wpList_append_rd _ rfl (.tmp 26) (.tmp 27) 23 rfl w.heap.size 5 i0 (.int .u8 0) 1 1 Try.underlying23 hi hz0 hz1 hz2 rfl (by decide) _ m (bvs (flat (l.take k))) rfl HO5.out w5.heap.size A5 hl c5 (bvs (headOf f)) rfl HR5.out (bvs_one _) (by unfold maxLen; omega) (by omega) (by omega) ?_)
        intro v6 w6 hown6 hg6
        have hb6 : Below w.heap.size w w6 := hbw5.grown hg6 (by omega) (fun k hk => (HO5.out.lt k hk).1)
        have z3 := (hg6.cell_far ⟨wr.heap.size, 3, none⟩ hlt5 (fun e => by have := (HO.out.lt _ e.symm).2; simp at this)).trans (HK5.out.cell 3)
        simp [fblk] at z3
        have hr6 := (HRD.out.below (Below.grown (B := w.heap.size) (hb35.mono hsz) hg6 (by omega) (fun k hk => (HO5.out.lt k hk).1))).more hb6.size
        have HO6 := Lib.hid hown6
        have HR6 := Lib.hid hr6
        have hsz6 := hb6.size
        clear hown6 hg6 hr6 HK5 HO5
        go_wp2_with (at_builtin; refine wpList_append_rd _ rfl (.tmp 29) (.tmp 31) 23 rfl w.heap.size 5 i0 (.int .u8 0) 1 1 Try.underlying23 hi hz0 hz1 hz2 rfl (by decide) _ (m + hl) _ rfl HO6.out w6.heap.size s.1 f.b.length s.2 (bvs f.b) rfl HR6.out (bvs_one _) (by unfold maxLen; omega) (by omega) (by omega) ?_)
        intro v7 w7 hown7 hg7
        have hb7 : Below w.heap.size w w7 := hb6.grown hg7 (by omega) (fun k hk => (HO6.out.lt k hk).1)
        clear hg7
        go_wp2
        go_roundw
        case rel =>
          refine ⟨k + 1, m + hl + f.b.length, by omega, by go_num, by omega, ?_, ?_, hb7⟩
          · rw [HE.out, List.length_append, List.length_append, HML.out, HHL.out]
          · rw [HE.out, bvs_app, bvs_app, List.append_assoc]; exact hown7
        case measure => simp [intOf]; omega
      · obtain rfl : k = n := by omega
        have hl : l.take k = l := List.take_of_length_le (by have := HN.out; omega)
        have hown := HO.out
        have hml := HML.out
        rw [hl] at hown hml
        have HO2 := Lib.hid hown
        have HM2 := Lib.hid hml
        clear hl hown hml
        go_wp2
        go_ret2
        refine ⟨_, rfl, ?_, hb⟩
        simp only []
        rw [HM2.out]
        exact HO2.out
  · have hp := HP.out
    rw [if_pos h0] at hp
    rw [hp]
    have q : ((m : Int) != 0) = true := by rw [bne_iff_ne]; omega
    clear hp HP HM
    go_enter Try.func12, Try.ntmps12
    go_wp2_with fail
    refine HC.out.mono ?_
    rintro e w1 ⟨rfl, hb1⟩
    go_wp2
    go_ret2
    exact ⟨_, rfl, World.ownsRow_nil _ _ _ _, hb1⟩
end Go.Proofs.Ytpbhmhagailhfaa
