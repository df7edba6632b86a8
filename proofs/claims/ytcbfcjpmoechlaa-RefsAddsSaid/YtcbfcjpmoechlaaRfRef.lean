/-
  The walks of the reference of layer 6: Counts, Distinct, Without.
-/
import Derived.Test.YtcbfcjpmoechlaaRfCount
set_option linter.unusedVariables false
set_option linter.unusedSimpArgs false
namespace Go.Proofs.Ytcbfcjpmoechlaa
open Go.RowKit
open Rf (Snp cnt many counts countsN distinctN has without freed freedN)

set_option maxHeartbeats 1000000 in
set_option maxRecDepth 100000 in
theorem rdistinct_any (A : Option Addr) (n c : Nat) (l : List Snp) (S : List (Option Addr × Nat)) (w : World) (h : RdS w w.heap.size A n l S) (hnc : n ≤ c) (hmax : c ≤ 9223372036854775807) (hm : many l ≤ 1000000000) :
    Calls Try.prog 20 #[.slice A n c] w fun e w' => e = .returned (.int .i64 (Rf.distinct l : Nat)) ∧ w = w' := by
  have HC := Lib.hid (fun x => count_any A n c l S x w h hnc hmax hm)
  clear h hm
  go_enter Try.func20, Try.ntmps20
  go_wp2
  go_loop [3, 4] (fun m i => ∃ j : Nat, j ≤ 64 ∧ i = .int .i64 ((j : Int) + 1) ∧ m = .int .i64 (distinctN l j : Nat)) (fun _ i => 66 - (intOf i).toNat)
  case atStart => exact ⟨0, by omega, rfl, rfl⟩
  case round =>
    obtain ⟨j, hj, rfl, rfl⟩ := hrel
    by_cases hlt : j < 64
    · have HE := Lib.hid (Rf.distinctN_succ l j)
      have hd := Rf.distinctN_le l j
      have HCC := Lib.hid (HC.out ((j : Int) + 1))
      have hhas : has l j = decide (0 < cnt l ((j : Int) + 1)) := rfl
      rw [hhas] at HE
      obtain ⟨t, ht⟩ : ∃ t, distinctN l j = t := ⟨_, rfl⟩
      rw [ht] at HE hd ⊢
      obtain ⟨x, hx⟩ : ∃ x, cnt l ((j : Int) + 1) = x := ⟨_, rfl⟩
      rw [hx] at HCC HE
      clear hx hhas ht
      by_cases hx : 0 < x
      · have he := HE.out
        rw [decide_eq_true hx, if_pos rfl] at he
        have HE2 := Lib.hid he
        clear he
        go_wp2_with (go_at_call 24; refine HCC.out.mono ?_; rintro _ _ ⟨rfl, rfl⟩)
        go_round
        case rel => exact ⟨j + 1, by omega, by go_num, by rw [HE2.out]; go_num⟩
        case measure => simp [intOf]; omega
      · have he := HE.out
        rw [decide_eq_false hx, if_neg (by decide)] at he
        have HE2 := Lib.hid he
        clear he
        go_wp2_with (go_at_call 24; refine HCC.out.mono ?_; rintro _ _ ⟨rfl, rfl⟩)
        go_round
        case rel => exact ⟨j + 1, by omega, by go_num, by rw [HE2.out]; rfl⟩
        case measure => simp [intOf]; omega
    · obtain rfl : j = 64 := by omega
      go_wp2
      go_ret
      exact ⟨rfl, rfl⟩

set_option maxHeartbeats 1000000 in
set_option maxRecDepth 100000 in
theorem rwithout_any (A : Option Addr) (n c : Nat) (l : List Snp) (S : List (Option Addr × Nat)) (id : Int) (w : World) (h : RdS w w.heap.size A n l S) (hnc : n ≤ c) (hmax : c ≤ 9223372036854775807) (hn : n ≤ 1000000) :
    Calls Try.prog 18 #[.slice A n c, .int .i64 id] w fun e w' => ∃ v, e = .returned v ∧ NewSnaps w' (without l id) v ∧ Below w.heap.size w w' := by
  obtain ⟨i0, hi, hz0, hz1, hz2⟩ := info_parts snap_info
  have HR := Lib.hid h
  have HL := Lib.hid h.1
  clear h
  go_enter Try.func18, Try.ntmps18
  go_wp2
  go_loopw [5, 6] (fun v i wr => ∃ (j m : Nat) (T : List (Option Addr × Nat)), j ≤ n ∧ m ≤ j ∧ i = .int .i64 (j : Int) ∧ (without (l.take j) id).length = m ∧ wr.ownsRow w.heap.size 36 5 v m (pcells sncells (without (l.take j) id) T) ∧ InnS wr w.heap.size (without (l.take j) id) T ∧ Below w.heap.size w wr) (fun _ i _ => n - (intOf i).toNat)
  case atStart =>
    refine ⟨0, 0, [], Nat.zero_le _, Nat.zero_le _, rfl, rfl, ?_, Inn.nil _ _, (Below.refl _ _).alloc (Nat.le_refl _) _⟩
    exact World.ownsRow_made (e := 36) (size := 5) (base := w.heap.size) w #[] 0 (Nat.le_refl _) (by unfold maxLen; omega) rfl
  case round =>
    obtain ⟨j, m, T, hj, hmj, rfl, hlen, hown, hinn, hb⟩ := hrel
    have HO := Lib.hid hown
    have HI := Lib.hid hinn
    have HLN := Lib.hid hlen
    have hsz := hb.size
    clear hown hinn hlen
    by_cases hlt : j < n
    · obtain ⟨ad, a, s, rfl, hab, ha, hs, g0, g1, g2, g3, g4, hrd, hs1, hs2⟩ := rds_get (HR.out.below hb) hlt
      have hE := Rf.without_take ha id
      by_cases hid : a.id = id
      · rw [if_pos hid, List.append_nil] at hE
        have HE := Lib.hid hE
        have q : (a.id != id) = false := by rw [hid]; simp
        clear ha hs g1 g2 g3 g4 hE hid
        go_wp2
        go_roundw
        case rel => exact ⟨j + 1, m, T, by omega, by omega, by go_num, by rw [HE.out]; exact HLN.out, by rw [HE.out]; exact HO.out, by rw [HE.out]; exact HI.out, hb⟩
        case measure => simp [intOf]; omega
      · rw [if_neg hid] at hE
        have HE := Lib.hid hE
        have q : (a.id != id) = true := by rw [bne_iff_ne]; exact hid
        have hl : (sninn a).length = a.chunks.length := ivs_len _
        have HIN := Lib.hid (Inn.one (inn := sninn) (f := a) (s := s) (w := wr) (B := w.heap.size) (by rw [hl]; exact hrd) (by rw [hl]; exact hs1) hs2)
        clear ha hs hE hid hrd hl
        go_wp2_with (at_builtin; refine wpList_append_rd _ rfl (.tmp 21) (.tmp 26) 22 rfl w.heap.size 36 i0 (.agg #[.int .i64 0, .int .i64 0, .slice none 0 0, .bool false, .string (strOf [])]) 5 64 Try.underlying22 hi hz0 hz1 hz2 rfl (by decide) _ m _ rfl (HO.out.alloc _) (wr.heap.size + 1) (some ⟨wr.heap.size, 0, none⟩) 1 1 (sncells a s) rfl (rd_cells wr (sncells a s) 36 rfl) (sn_one a s) (by unfold maxLen; omega) (by omega) (by simp; omega) ?_)
        intro v3 w3 hown3 hg3
        have hb3 : Below w.heap.size w w3 := (hb.alloc hsz _).grown hg3 (by simp; omega) (fun k hk => (HO.out.lt k hk).1)
        have HB3 := Lib.hid (((Below.refl w.heap.size wr).alloc hsz _).grown hg3 (by simp; omega) (fun k hk => (HO.out.lt k hk).1))
        clear hg3
        go_wp2
        go_roundw
        case rel =>
          refine ⟨j + 1, m + 1, T ++ [s], by omega, by omega, by go_num, ?_, ?_, ?_, hb3⟩
          · rw [HE.out, List.length_append, HLN.out]; rfl
          · rw [HE.out, pcells_app _ _ _ _ (by rw [HI.out.1]), pcells_one]; exact hown3
          · rw [HE.out]
            exact (HI.out.below HB3.out).app (HIN.out.below HB3.out)
        case measure => simp [intOf]; omega
    · obtain rfl : j = n := by omega
      have hfull : l.take j = l := List.take_of_length_le (by have := HL.out; omega)
      have hN := snaps_of_own HO.out HLN.out HI.out hsz
      rw [hfull] at hN
      have HN := Lib.hid hN
      clear hN hfull
      go_wp2
      go_ret
      exact ⟨_, rfl, HN.out, hb⟩
end Go.Proofs.Ytcbfcjpmoechlaa
