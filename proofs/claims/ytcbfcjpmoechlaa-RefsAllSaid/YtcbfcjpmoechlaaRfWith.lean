/-
  The walks of the reference of layer 6: With, Freed.
-/
import Derived.Test.YtcbfcjpmoechlaaRfRef
set_option linter.unusedVariables false
set_option linter.unusedSimpArgs false
namespace Go.Proofs.Ytcbfcjpmoechlaa
open Go.RowKit
open Rf (Snp cnt many has without freed freedN withC one)

set_option maxHeartbeats 1000000 in
set_option maxRecDepth 100000 in
theorem rwith_any (A A' : Option Addr) (n n' c c' : Nat) (l : List Snp) (S : List (Option Addr × Nat)) (ch : List Int) (w : World) (h : RdS w w.heap.size A n l S) (hnc : n ≤ c) (hmax : c ≤ 9223372036854775807) (hn : n ≤ 1000000) (h' : Rd w w.heap.size 1 A' n' (ivs ch)) (hnc' : n' ≤ c') (hmax' : c' ≤ 9223372036854775807) (hm : many l + ch.length ≤ 1000000000) :
    Calls Try.prog 22 #[.slice A n c, .slice A' n' c'] w fun e w' => e = .returned (.int .i64 (withC l ch : Nat)) ∧ Below w.heap.size w w' := by
  obtain ⟨i0, hi, hz0, hz1, hz2⟩ := info_parts snap_info
  have hlen : ch.length = n' := by have := h'.1; rw [ivs_len] at this; omega
  have hmm : many (l ++ [one ch]) ≤ 1000000000 := by rw [Rf.many_app, Rf.many_one]; exact hm
  have hin1 : InnS w w.heap.size [one ch] [(A', c')] := Inn.one (inn := sninn) (f := one ch) (s := (A', c')) (by show Rd w w.heap.size 1 A' (ivs ch).length (ivs ch); rw [ivs_len, hlen]; exact h') (by show (ivs ch).length ≤ c'; rw [ivs_len, hlen]; exact hnc') hmax'
  have HIN := Lib.hid (h.inner.app hin1)
  have HR := Lib.hid h
  have HM := Lib.hid hmm
  have HNN := Lib.hid hlen
  have hone := pcells_cell sn_one l S
  clear h h' hm hmm hin1
  go_enter Try.func22, Try.ntmps22
  go_wp2_with (at_builtin; refine wpList_append_rd _ rfl (.tmp 5) (.tmp 6) 22 rfl w.heap.size 36 i0 (.agg #[.int .i64 0, .int .i64 0, .slice none 0 0, .bool false, .string (strOf [])]) 5 64 Try.underlying22 hi hz0 hz1 hz2 rfl (by decide) _ 0 [] rfl (World.ownsRow_made (e := 36) w #[] 0 (Nat.le_refl _) (by unfold maxLen; omega) rfl) w.heap.size A n c (pcells sncells l S) rfl (HR.out.2.2.1.alloc (Nat.le_refl _) _) hone (by unfold maxLen; omega) (by omega) (by simp) ?_)
  intro v1 w1 hown1 hg1
  have hb1 : Below w.heap.size w w1 := ((Below.refl _ _).alloc (Nat.le_refl _) _).grown hg1 (by simp) (fun k hk => by simp [Value.ownBlock] at hk; omega)
  clear hg1
  obtain ⟨A1, c1, rfl, hc1, hm1⟩ := slice_of_own hown1
  have HO1 := Lib.hid hown1
  have hsz1 := hb1.size
  clear hown1
  go_wp2_with (at_builtin; refine wpList_append_rd _ rfl (.tmp 7) (.tmp 10) 22 rfl w.heap.size 36 i0 (.agg #[.int .i64 0, .int .i64 0, .slice none 0 0, .bool false, .string (strOf [])]) 5 64 Try.underlying22 hi hz0 hz1 hz2 rfl (by decide) _ n _ rfl (HO1.out.alloc _) (w1.heap.size + 1) (some ⟨w1.heap.size, 0, none⟩) 1 1 [.int .i64 0, .int .i64 0, .slice A' n' c', .bool false, .string (strOf [])] rfl (rd_cells w1 [.int .i64 0, .int .i64 0, .slice A' n' c', .bool false, .string (strOf [])] 36 rfl) (by intro u hu; simp at hu; rcases hu with rfl | rfl | rfl | rfl | rfl <;> rfl) (by unfold maxLen; omega) (by omega) (by simp; omega) ?_)
  intro v2 w2 hown2 hg2
  have hb2 : Below w.heap.size w w2 := (hb1.alloc hsz1 _).grown hg2 (by simp; omega) (fun k hk => (HO1.out.lt k hk).1)
  clear hg2
  have hcells : pcells sncells (l ++ [one ch]) (S ++ [(A', c')]) = pcells sncells l S ++ [.int .i64 0, .int .i64 0, .slice A' n' c', .bool false, .string (strOf [])] := by
    rw [pcells_app _ _ _ _ (by rw [HR.out.1, HR.out.2.1]), pcells_one]
    rw [← HNN.out]
    rfl
  have hN := snaps_of_own (l := l ++ [one ch]) (S := S ++ [(A', c')]) (B := w.heap.size) (by rw [hcells]; exact hown2) (by rw [List.length_append, HR.out.1]; rfl) (HIN.out.below hb2) hb2.size
  obtain ⟨A2, n2, c2, S2, rfl, h21, h22, hr2⟩ := hN
  have HC := Lib.hid (rdistinct_any A2 n2 c2 (l ++ [one ch]) S2 w2 hr2 h21 h22 HM.out)
  clear hr2 hown2 hcells
  go_wp2_with fail
  refine HC.out.mono ?_
  rintro _ _ ⟨rfl, rfl⟩
  go_wp2
  go_ret
  exact ⟨rfl, hb2⟩

set_option maxHeartbeats 1000000 in
set_option maxRecDepth 100000 in
theorem rfreed_any (A : Option Addr) (n c : Nat) (l : List Snp) (S : List (Option Addr × Nat)) (id : Int) (w : World) (h : RdS w w.heap.size A n l S) (hnc : n ≤ c) (hmax : c ≤ 9223372036854775807) (hn : n ≤ 1000000) (hm : many l ≤ 1000000000) :
    Calls Try.prog 15 #[.slice A n c, .int .i64 id] w fun e w' => ∃ v, e = .returned v ∧ NewNums w' (freed l id) v ∧ Below w.heap.size w w' := by
  obtain ⟨i0, hi, hz0, hz1, hz2⟩ := info_parts int_info
  have HR := Lib.hid h
  have HM := Lib.hid hm
  have HMW := Lib.hid (Nat.le_trans (Rf.many_without l id) hm)
  clear h hm
  go_enter Try.func15, Try.ntmps15
  go_wp2
  go_loopw [5, 6] (fun v i wr => ∃ j m : Nat, j ≤ 64 ∧ m ≤ j ∧ i = .int .i64 ((j : Int) + 1) ∧ (freedN l id j).length = m ∧ wr.ownsRow w.heap.size 3 1 v m (ivs (freedN l id j)) ∧ Below w.heap.size w wr) (fun _ i _ => 66 - (intOf i).toNat)
  case atStart => exact ⟨0, 0, by omega, by omega, rfl, rfl, World.ownsRow_made (e := 3) (size := 1) (base := w.heap.size) w #[] 0 (Nat.le_refl _) (by unfold maxLen; omega) rfl, (Below.refl _ _).alloc (Nat.le_refl _) _⟩
  case round =>
    obtain ⟨j, m, hj, hmj, rfl, hlen, hown, hb⟩ := hrel
    have HO := Lib.hid hown
    have HLN := Lib.hid hlen
    have hsz := hb.size
    clear hown hlen
    by_cases hlt : j < 64
    · have hE := Rf.freedN_succ l id j
      have hr := (HR.out.below hb).more hsz
      have HC := Lib.hid (count_any A n c l S ((j : Int) + 1) wr hr hnc hmax HM.out)
      have HW := Lib.hid (rwithout_any A n c l S id wr hr hnc hmax hn)
      have hhas : has l j = decide (0 < cnt l ((j : Int) + 1)) := rfl
      have hhas2 : has (without l id) j = decide (0 < cnt (without l id) ((j : Int) + 1)) := rfl
      rw [hhas, hhas2] at hE
      have HCW := Lib.hid (fun (A : Option Addr) (n c : Nat) (S : List (Option Addr × Nat)) (w : World) h hnc hmax => count_any A n c (without l id) S ((j : Int) + 1) w h hnc hmax HMW.out)
      obtain ⟨x, hx⟩ : ∃ x, cnt l ((j : Int) + 1) = x := ⟨_, rfl⟩
      obtain ⟨y, hy⟩ : ∃ y, cnt (without l id) ((j : Int) + 1) = y := ⟨_, rfl⟩
      rw [hx] at HC hE
      rw [hy] at HCW hE
      clear hx hy hhas hhas2 hr
      by_cases hx : 0 < x
      · go_wp2_with fail
        refine HC.out.mono ?_
        rintro _ _ ⟨rfl, rfl⟩
        go_wp2_with fail
        refine HW.out.mono ?_
        rintro _ w2 ⟨v2, rfl, ⟨A2, n2, c2, S2, rfl, h21, h22, hr2⟩, hb2⟩
        have hbw2 := hb.trans (hb2.mono hsz)
        have hsz2 := hbw2.size
        have HO2 := Lib.hid (own_below HO.out hb2)
        have HC2 := Lib.hid (HCW.out A2 n2 c2 S2 w2 hr2 h21 h22)
        clear hr2
        by_cases hy : y = 0
        · subst hy
          rw [decide_eq_true hx] at hE
          have HE := Lib.hid (show freedN l id (j + 1) = freedN l id j ++ [(j : Int) + 1] by rw [hE]; rfl)
          clear hE
          go_wp2_with fail
          refine HC2.out.mono ?_
          rintro _ _ ⟨rfl, rfl⟩
          go_wp2_with (at_builtin; refine wpList_append_rd _ rfl (.tmp 24) (.tmp 26) 23 rfl w.heap.size 3 i0 (.int .i64 0) 1 8 Try.underlying23 hi hz0 hz1 hz2 rfl (by decide) _ m _ rfl (HO2.out.alloc _) (w2.heap.size + 1) (some ⟨w2.heap.size, 0, none⟩) 1 1 [.int .i64 ((j : Int) + 1)] rfl (rd_new w2 [.int .i64 ((j : Int) + 1)] 3) (ivs_one [(j : Int) + 1]) (by unfold maxLen; omega) (by omega) (by simp; omega) ?_)
          intro v3 w3 hown3 hg3
          have hb3 : Below w.heap.size w w3 := (hbw2.alloc hsz2 _).grown hg3 (by simp; omega) (fun k hk => (HO2.out.lt k hk).1)
          clear hg3
          go_wp2
          go_roundw
          case rel => exact ⟨j + 1, m + 1, by omega, by omega, by go_num, by rw [HE.out, List.length_append, HLN.out]; rfl, by rw [HE.out, ivs_app]; exact hown3, hb3⟩
          case measure => simp [intOf]; omega
        · have q : ((y : Int) == 0) = false := by rw [beq_eq_false_iff_ne]; omega
          rw [decide_eq_true hx, decide_eq_true (show 0 < y by omega)] at hE
          have HE := Lib.hid (show freedN l id (j + 1) = freedN l id j by rw [hE]; simp)
          clear hE
          go_wp2_with fail
          refine HC2.out.mono ?_
          rintro _ _ ⟨rfl, rfl⟩
          go_wp2
          go_roundw
          case rel => exact ⟨j + 1, m, by omega, by omega, by go_num, by rw [HE.out, HLN.out], by rw [HE.out]; exact HO2.out, hbw2⟩
          case measure => simp [intOf]; omega
      · obtain rfl : x = 0 := by omega
        rw [decide_eq_false hx] at hE
        have HE := Lib.hid (show freedN l id (j + 1) = freedN l id j by rw [hE]; simp)
        clear hE
        go_wp2_with fail
        refine HC.out.mono ?_
        rintro _ _ ⟨rfl, rfl⟩
        go_wp2
        go_roundw
        case rel => exact ⟨j + 1, m, by omega, by omega, by go_num, by rw [HE.out, HLN.out], by rw [HE.out]; exact HO.out, hb⟩
        case measure => simp [intOf]; omega
    · obtain rfl : j = 64 := by omega
      have hN := nums_of_own (l := freed l id) (by rw [show freed l id = freedN l id 64 from rfl, HLN.out]; exact HO.out)
      have HN := Lib.hid hN
      clear hN
      go_wp2
      go_ret
      exact ⟨_, rfl, HN.out, hb⟩
end Go.Proofs.Ytcbfcjpmoechlaa
