/-
  The walk of the law StateMay.
-/
import Derived.Test.YtdkjdiamekfbdaaStLaw
import Derived.Test.YtdkjdiamekfbdaaStMay
namespace Go.Proofs.Ytdkjdiamekfbdaa
open Go.RowKit
open Rf (Snp)
open St (Ses Opn Sta mayS clientS openedS snapS keptS)

set_option maxHeartbeats 8000000 in
set_option maxRecDepth 100000 in
theorem stmayl_any (s : Sta) (p : Pls) (v a : Int) (u : World) (h : RdT u u.heap.size s p) (ht : Tok s) (hv : I64 v) (ha : I64 a) : Calls Try.prog 3 #[stagg s p, .int .i64 v, .int .i64 a] u fun e w' => e = .returned (.bool true) ∧ Below u.heap.size u w' := by
  obtain ⟨w0, hw0, hk0, hb0, hs0⟩ := box_st u s p 26
  obtain ⟨s', hs'⟩ : ∃ s', lessT s = s' := ⟨_, rfl⟩
  have HTK := Lib.hid (show Tok s' by rw [← hs']; exact lessT_tok ht)
  have HSM := Lib.hid (show Small s' by rw [← hs']; exact lessT_small s)
  have HLN := Lib.hid (show s'.sess.length ≤ 20 ∧ s'.opens.length ≤ 20 ∧ s'.snaps.length ≤ 20 ∧ ∀ a ∈ s'.snaps, a.chunks.length ≤ 12 ∧ a.tag.length ≤ 40 by rw [← hs']; exact lessT_len s)
  have HLS := Lib.hid (fun (w : World) (hb : Below u.heap.size u w) => (by have := less_any s p u.heap.size w (h.below hb) hb.size; rw [hs'] at this; exact this : Calls Try.prog 10 #[stagg s p] w (LsBack w u.heap.size s')))
  have HK0 := Lib.hid hk0
  have HW := Lib.hid hw0
  clear h ht hs' hk0 hw0
  unfold stagg stblk
  go_enter Try.func3, Try.ntmps3
  go_upto_region 1 with fail
  rw [show u.alloc (.cells #[.int .i64 s.version, .int .i64 s.next, .int .i64 s.keep, .int .i64 s.quota, .slice p.a1 p.n1 p.c1, .slice p.a2 p.n2 p.c2, .slice p.a3 p.n3 p.c3] 26) = w0 from HW.out.symm]
  go_wp2_with fail
  refine (stshown_any _).mono ?_
  rintro e w1 ⟨rfl, hb1⟩
  have hbw1 : Below u.heap.size u w1 := hb0.trans (hb1.mono hb0.size)
  have hgl : u.heap.size < w1.heap.size := Nat.lt_of_lt_of_le hs0 hb1.size
  have hk1 := HK0.out.below hb1 hs0
  obtain ⟨c0, c1, c2, c3, c4, c5, c6⟩ := stblk_cells hk1
  have HK1 := Lib.hid hk1
  clear hk1
  go_wp2_with fail
  refine (HLS.out w1 hbw1).mono ?_
  rintro e w2 ⟨q, rfl, hlt, hb2⟩
  have hk2 := HK1.out.below hb2 hgl
  obtain ⟨d0, d1, d2, d3, d4, d5, d6⟩ := stblk_cells hk2
  have z0 := hk2.frozen 0
  have z1 := hk2.frozen 1
  have z2 := hk2.frozen 2
  have z3 := hk2.frozen 3
  have z4 := hk2.frozen 4
  have z5 := hk2.frozen 5
  have z6 := hk2.frozen 6
  have hbw2 : Below u.heap.size u w2 := hbw1.trans (hb2.mono hbw1.size)
  obtain ⟨hk3, hg3⟩ := stput_blk (s' := s') (q' := q) hk2
  have hlt3 := hlt.grown hg3 (Nat.le_refl _) hgl hbw2.size
  obtain ⟨w3, hw3⟩ : ∃ w3, w3 = stput w2 u.heap.size s' q := ⟨_, rfl⟩
  rw [← hw3] at hk3 hg3 hlt3
  have hbw3 : Below u.heap.size u w3 := hbw2.grown hg3 hbw2.size (fun k hk => by injection hk with hk; omega)
  have hl3 := hk3.lt
  have HRT := Lib.hid (hlt3.rdt hbw3.size)
  have HLT := Lib.hid hlt3
  have HK3 := Lib.hid hk3
  have HW3 := Lib.hid hw3
  clear hlt hlt3 hk2 hk3 hg3 hw3 c0 c1 c2 c3 c4 c5 c6
  unfold stagg stblk
  go_upto_region 3 with fail
  rw [show ((((((w2.setCell ⟨u.heap.size, 0, none⟩ (.int .i64 s'.version)).setCell ⟨u.heap.size, 1, none⟩ (.int .i64 s'.next)).setCell ⟨u.heap.size, 2, none⟩ (.int .i64 s'.keep)).setCell ⟨u.heap.size, 3, none⟩ (.int .i64 s'.quota)).setCell ⟨u.heap.size, 4, none⟩ (.slice q.a1 q.n1 q.c1)).setCell ⟨u.heap.size, 5, none⟩ (.slice q.a2 q.n2 q.c2)).setCell ⟨u.heap.size, 6, none⟩ (.slice q.a3 q.n3 q.c3) = w3 from HW3.out.symm]
  clear d0 d1 d2 d3 d4 d5 d6 z0 z1 z2 z3 z4 z5 z6
  go_wp2_with fail
  refine (fresh_p w3).mono ?_
  rintro e w4 ⟨p1, rfl, hr4, hb4⟩
  have HR4 := Lib.hid hr4
  clear hr4
  go_wp2_with fail
  refine (fresh7_any w4).mono ?_
  rintro e w5 ⟨rfl, hb5⟩
  have hr5 := (HR4.out.below hb5).more hb5.size
  go_wp2_with fail
  refine (same_p St.fresh St.fresh p1 noPls w5 hr5 (rdt_fresh _ _) tok_fresh tok_fresh small_fresh small_fresh).mono ?_
  rintro e w6 ⟨rfl, hb6⟩
  have hb36 : Below w3.heap.size w3 w6 := (hb4.trans (hb5.mono hb4.size)).trans (hb6.mono (Nat.le_trans hb4.size hb5.size))
  have HKX := Lib.hid (HK3.out.below hb36 hl3)
  have HRX := Lib.hid ((HRT.out.below hb36).more hb36.size)
  have hlx : u.heap.size < w6.heap.size := Nat.lt_of_lt_of_le hl3 hb36.size
  have hbw6 : Below u.heap.size u w6 := hbw3.trans (hb36.mono hbw3.size)
  rw [decide_eq_true rfl]
  clear hr5
  go_upto_region 4 with fail
  refine wp_region_grew (n := 64) (Say [(15, isv (.bool true)), (16, isv (.bool true)), (17, isv (.bool true)), (18, isv (.bool true)), (19, isv (.bool true)), (20, isv (.agg #[.int .i64 s'.version, .int .i64 s'.next, .int .i64 s'.keep, .int .i64 s'.quota, .slice q.a1 q.n1 q.c1, .slice q.a2 q.n2 q.c2, .slice q.a3 q.n3 q.c3])), (21, isv (.int .i64 v)), (22, isv (.int .i64 (mayS s' v : Nat))), (23, isv (.agg #[.int .i64 s'.version, .int .i64 s'.next, .int .i64 s'.keep, .int .i64 s'.quota, .slice q.a1 q.n1 q.c1, .slice q.a2 q.n2 q.c2, .slice q.a3 q.n3 q.c3])), (24, isv (.int .i64 v)), (25, isv (.int .i64 (mayS s' v : Nat))), (26, isv (.bool true)), (27, isv (.bool true)), (28, isv (.bool true)), (29, isv (.agg #[.int .i64 s'.version, .int .i64 s'.next, .int .i64 s'.keep, .int .i64 s'.quota, .slice q.a1 q.n1 q.c1, .slice q.a2 q.n2 q.c2, .slice q.a3 q.n3 q.c3])), (30, isv (.int .i64 a)), (31, isv (.int .i64 (clientS s' a))), (32, isv (.agg #[.int .i64 s'.version, .int .i64 s'.next, .int .i64 s'.keep, .int .i64 s'.quota, .slice q.a1 q.n1 q.c1, .slice q.a2 q.n2 q.c2, .slice q.a3 q.n3 q.c3])), (33, isv (.int .i64 a)), (34, isv (.int .i64 (clientS s' a))), (35, isv (.bool true)), (36, isv (.bool true)), (37, isv (.bool true)), (38, isv (.agg #[.int .i64 s'.version, .int .i64 s'.next, .int .i64 s'.keep, .int .i64 s'.quota, .slice q.a1 q.n1 q.c1, .slice q.a2 q.n2 q.c2, .slice q.a3 q.n3 q.c3])), (39, isv (.int .i64 a)), (40, isv (.int .i64 (openedS s' a))), (41, isv (.agg #[.int .i64 s'.version, .int .i64 s'.next, .int .i64 s'.keep, .int .i64 s'.quota, .slice q.a1 q.n1 q.c1, .slice q.a2 q.n2 q.c2, .slice q.a3 q.n3 q.c3])), (42, isv (.int .i64 a)), (43, isv (.int .i64 (openedS s' a))), (44, isv (.bool true)), (45, isv (.bool true)), (46, isv (.bool true)), (47, isv (.agg #[.int .i64 s'.version, .int .i64 s'.next, .int .i64 s'.keep, .int .i64 s'.quota, .slice q.a1 q.n1 q.c1, .slice q.a2 q.n2 q.c2, .slice q.a3 q.n3 q.c3])), (48, isv (.int .i64 a)), (49, isv (.int .i64 (snapS s' a))), (50, isv (.agg #[.int .i64 s'.version, .int .i64 s'.next, .int .i64 s'.keep, .int .i64 s'.quota, .slice q.a1 q.n1 q.c1, .slice q.a2 q.n2 q.c2, .slice q.a3 q.n3 q.c3])), (51, isv (.int .i64 a)), (52, isv (.int .i64 (snapS s' a))), (53, isv (.bool true)), (54, isv (.bool true)), (55, isv (.bool true)), (56, isv (.agg #[.int .i64 s'.version, .int .i64 s'.next, .int .i64 s'.keep, .int .i64 s'.quota, .slice q.a1 q.n1 q.c1, .slice q.a2 q.n2 q.c2, .slice q.a3 q.n3 q.c3])), (57, isv (.int .i64 a)), (58, isv (.bool (keptS s' a))), (59, isv (.agg #[.int .i64 s'.version, .int .i64 s'.next, .int .i64 s'.keep, .int .i64 s'.quota, .slice q.a1 q.n1 q.c1, .slice q.a2 q.n2 q.c2, .slice q.a3 q.n3 q.c3])), (60, isv (.int .i64 a)), (61, isv (.bool (keptS s' a))), (62, isv (.bool true)), (63, isv (.bool true)), (6, isv (.bool true))]) (by kernel_rfl) (by kernel_rfl) rfl ⟨?_, ?_, ?_, ?_, ?_, ?_, ?_, ?_, ?_, ?_, ?_, ?_, ?_, ?_, ?_, ?_, ?_, ?_, ?_, ?_, ?_, ?_, ?_, ?_, ?_, ?_, ?_, ?_, ?_, ?_, ?_, ?_, ?_, ?_, ?_, ?_, ?_, ?_, ?_, ?_, ?_, ?_, ?_, ?_, ?_, ?_, ?_, ?_, ?_, ?_, trivial⟩ ?_
  · exact owed_move rfl rfl (.inl rfl) fun fr w _ hK => known_out hK 7 (by kernel_rfl)
  · exact owed_move rfl rfl (.inl rfl) fun fr w _ hK => known_in hK 15 (by kernel_rfl)
  · exact owed_movew rfl rfl rfl (by kernel_rfl) (fun _ _ h => h) (.inl rfl) fun fr w _ hK => known_out hK 8 (by kernel_rfl)
  · refine owed_val _ rfl rfl (fun _ => rfl) fun fr w hC hK => ?_
    have k16 : slot fr 16 = .bool true := known_in hK 16 (by kernel_rfl)
    have k17 : slot fr 17 = .bool true := known_in hK 17 (by kernel_rfl)
    clear hK
    unfold slot at k16 k17
    go_simp
  · exact owed_move rfl rfl (.inl rfl) fun fr w _ hK => known_in hK 18 (by kernel_rfl)
  · refine owed_wval _ rfl rfl rfl (by kernel_rfl) (fun _ _ h => h) (fun _ => rfl) fun fr w hC hK => ?_
    have k3 : slot fr 3 = .pointer (some ⟨u.heap.size, 0, none⟩) := known_out hK 3 (by kernel_rfl)
    clear hK
    unfold slot at k3
    have x0 := (HKX.out.below hC hlx).cell 0
    have x1 := (HKX.out.below hC hlx).cell 1
    have x2 := (HKX.out.below hC hlx).cell 2
    have x3 := (HKX.out.below hC hlx).cell 3
    have x4 := (HKX.out.below hC hlx).cell 4
    have x5 := (HKX.out.below hC hlx).cell 5
    have x6 := (HKX.out.below hC hlx).cell 6
    simp [stblk] at x0 x1 x2 x3 x4 x5 x6
    go_simp
  · exact owed_movew rfl rfl rfl (by kernel_rfl) (fun _ _ h => h) (.inl rfl) fun fr w _ hK => known_out hK 1 (by kernel_rfl)
  · refine owed_wanted rfl rfl rfl (by kernel_rfl) (fun _ _ h => h) fun fr w hC hK K hk => ?_
    have k20 : slot fr 20 = .agg #[.int .i64 s'.version, .int .i64 s'.next, .int .i64 s'.keep, .int .i64 s'.quota, .slice q.a1 q.n1 q.c1, .slice q.a2 q.n2 q.c2, .slice q.a3 q.n3 q.c3] := known_in hK 20 (by kernel_rfl)
    have k21 : slot fr 21 = .int .i64 v := known_in hK 21 (by kernel_rfl)
    clear hK
    unfold slot at k20 k21
    go_simp
    refine (may_p s' q v w ((HRX.out.below hC).more (Below.size hC)) HTK.out HSM.out hv).mono ?_
    rintro e w' ⟨rfl, hb⟩
    exact hk _ _ hb rfl
  · refine owed_wval _ rfl rfl rfl (by kernel_rfl) (fun _ _ h => h) (fun _ => rfl) fun fr w hC hK => ?_
    have k3 : slot fr 3 = .pointer (some ⟨u.heap.size, 0, none⟩) := known_out hK 3 (by kernel_rfl)
    clear hK
    unfold slot at k3
    have x0 := (HKX.out.below hC hlx).cell 0
    have x1 := (HKX.out.below hC hlx).cell 1
    have x2 := (HKX.out.below hC hlx).cell 2
    have x3 := (HKX.out.below hC hlx).cell 3
    have x4 := (HKX.out.below hC hlx).cell 4
    have x5 := (HKX.out.below hC hlx).cell 5
    have x6 := (HKX.out.below hC hlx).cell 6
    simp [stblk] at x0 x1 x2 x3 x4 x5 x6
    go_simp
  · exact owed_movew rfl rfl rfl (by kernel_rfl) (fun _ _ h => h) (.inl rfl) fun fr w _ hK => known_out hK 1 (by kernel_rfl)
  · refine owed_wanted rfl rfl rfl (by kernel_rfl) (fun _ _ h => h) fun fr w hC hK K hk => ?_
    have k23 : slot fr 23 = .agg #[.int .i64 s'.version, .int .i64 s'.next, .int .i64 s'.keep, .int .i64 s'.quota, .slice q.a1 q.n1 q.c1, .slice q.a2 q.n2 q.c2, .slice q.a3 q.n3 q.c3] := known_in hK 23 (by kernel_rfl)
    have k24 : slot fr 24 = .int .i64 v := known_in hK 24 (by kernel_rfl)
    clear hK
    unfold slot at k23 k24
    go_simp
    refine (may7_any s' q v w ((HRX.out.below hC).more (Below.size hC)) HTK.out hv).mono ?_
    rintro e w' ⟨rfl, hb⟩
    exact hk _ _ hb rfl
  · refine owed_wval _ rfl rfl rfl (by kernel_rfl) (fun _ _ h => h) (fun _ => rfl) fun fr w hC hK => ?_
    have k22 : slot fr 22 = .int .i64 (mayS s' v : Nat) := known_in hK 22 (by kernel_rfl)
    have k25 : slot fr 25 = .int .i64 (mayS s' v : Nat) := known_in hK 25 (by kernel_rfl)
    clear hK
    unfold slot at k22 k25
    go_simp
  · refine owed_val _ rfl rfl (fun _ => rfl) fun fr w hC hK => ?_
    have k19 : slot fr 19 = .bool true := known_in hK 19 (by kernel_rfl)
    have k26 : slot fr 26 = .bool true := known_in hK 26 (by kernel_rfl)
    clear hK
    unfold slot at k19 k26
    go_simp
  · exact owed_move rfl rfl (.inl rfl) fun fr w _ hK => known_in hK 27 (by kernel_rfl)
  · refine owed_wval _ rfl rfl rfl (by kernel_rfl) (fun _ _ h => h) (fun _ => rfl) fun fr w hC hK => ?_
    have k3 : slot fr 3 = .pointer (some ⟨u.heap.size, 0, none⟩) := known_out hK 3 (by kernel_rfl)
    clear hK
    unfold slot at k3
    have x0 := (HKX.out.below hC hlx).cell 0
    have x1 := (HKX.out.below hC hlx).cell 1
    have x2 := (HKX.out.below hC hlx).cell 2
    have x3 := (HKX.out.below hC hlx).cell 3
    have x4 := (HKX.out.below hC hlx).cell 4
    have x5 := (HKX.out.below hC hlx).cell 5
    have x6 := (HKX.out.below hC hlx).cell 6
    simp [stblk] at x0 x1 x2 x3 x4 x5 x6
    go_simp
  · exact owed_movew rfl rfl rfl (by kernel_rfl) (fun _ _ h => h) (.inl rfl) fun fr w _ hK => known_out hK 2 (by kernel_rfl)
  · refine owed_wanted rfl rfl rfl (by kernel_rfl) (fun _ _ h => h) fun fr w hC hK K hk => ?_
    have k29 : slot fr 29 = .agg #[.int .i64 s'.version, .int .i64 s'.next, .int .i64 s'.keep, .int .i64 s'.quota, .slice q.a1 q.n1 q.c1, .slice q.a2 q.n2 q.c2, .slice q.a3 q.n3 q.c3] := known_in hK 29 (by kernel_rfl)
    have k30 : slot fr 30 = .int .i64 a := known_in hK 30 (by kernel_rfl)
    clear hK
    unfold slot at k29 k30
    go_simp
    refine (client_p s' q a w ((HRX.out.below hC).more (Below.size hC)) HTK.out HSM.out ha).mono ?_
    rintro e w' ⟨rfl, hb⟩
    exact hk _ _ hb rfl
  · refine owed_wval _ rfl rfl rfl (by kernel_rfl) (fun _ _ h => h) (fun _ => rfl) fun fr w hC hK => ?_
    have k3 : slot fr 3 = .pointer (some ⟨u.heap.size, 0, none⟩) := known_out hK 3 (by kernel_rfl)
    clear hK
    unfold slot at k3
    have x0 := (HKX.out.below hC hlx).cell 0
    have x1 := (HKX.out.below hC hlx).cell 1
    have x2 := (HKX.out.below hC hlx).cell 2
    have x3 := (HKX.out.below hC hlx).cell 3
    have x4 := (HKX.out.below hC hlx).cell 4
    have x5 := (HKX.out.below hC hlx).cell 5
    have x6 := (HKX.out.below hC hlx).cell 6
    simp [stblk] at x0 x1 x2 x3 x4 x5 x6
    go_simp
  · exact owed_movew rfl rfl rfl (by kernel_rfl) (fun _ _ h => h) (.inl rfl) fun fr w _ hK => known_out hK 2 (by kernel_rfl)
  · refine owed_wanted rfl rfl rfl (by kernel_rfl) (fun _ _ h => h) fun fr w hC hK K hk => ?_
    have k32 : slot fr 32 = .agg #[.int .i64 s'.version, .int .i64 s'.next, .int .i64 s'.keep, .int .i64 s'.quota, .slice q.a1 q.n1 q.c1, .slice q.a2 q.n2 q.c2, .slice q.a3 q.n3 q.c3] := known_in hK 32 (by kernel_rfl)
    have k33 : slot fr 33 = .int .i64 a := known_in hK 33 (by kernel_rfl)
    clear hK
    unfold slot at k32 k33
    go_simp
    refine (client7_any s' q a w ((HRX.out.below hC).more (Below.size hC)) HTK.out ha).mono ?_
    rintro e w' ⟨rfl, hb⟩
    exact hk _ _ hb rfl
  · refine owed_wval _ rfl rfl rfl (by kernel_rfl) (fun _ _ h => h) (fun _ => rfl) fun fr w hC hK => ?_
    have k31 : slot fr 31 = .int .i64 (clientS s' a) := known_in hK 31 (by kernel_rfl)
    have k34 : slot fr 34 = .int .i64 (clientS s' a) := known_in hK 34 (by kernel_rfl)
    clear hK
    unfold slot at k31 k34
    go_simp
  · refine owed_val _ rfl rfl (fun _ => rfl) fun fr w hC hK => ?_
    have k28 : slot fr 28 = .bool true := known_in hK 28 (by kernel_rfl)
    have k35 : slot fr 35 = .bool true := known_in hK 35 (by kernel_rfl)
    clear hK
    unfold slot at k28 k35
    go_simp
  · exact owed_move rfl rfl (.inl rfl) fun fr w _ hK => known_in hK 36 (by kernel_rfl)
  · refine owed_wval _ rfl rfl rfl (by kernel_rfl) (fun _ _ h => h) (fun _ => rfl) fun fr w hC hK => ?_
    have k3 : slot fr 3 = .pointer (some ⟨u.heap.size, 0, none⟩) := known_out hK 3 (by kernel_rfl)
    clear hK
    unfold slot at k3
    have x0 := (HKX.out.below hC hlx).cell 0
    have x1 := (HKX.out.below hC hlx).cell 1
    have x2 := (HKX.out.below hC hlx).cell 2
    have x3 := (HKX.out.below hC hlx).cell 3
    have x4 := (HKX.out.below hC hlx).cell 4
    have x5 := (HKX.out.below hC hlx).cell 5
    have x6 := (HKX.out.below hC hlx).cell 6
    simp [stblk] at x0 x1 x2 x3 x4 x5 x6
    go_simp
  · exact owed_movew rfl rfl rfl (by kernel_rfl) (fun _ _ h => h) (.inl rfl) fun fr w _ hK => known_out hK 2 (by kernel_rfl)
  · refine owed_wanted rfl rfl rfl (by kernel_rfl) (fun _ _ h => h) fun fr w hC hK K hk => ?_
    have k38 : slot fr 38 = .agg #[.int .i64 s'.version, .int .i64 s'.next, .int .i64 s'.keep, .int .i64 s'.quota, .slice q.a1 q.n1 q.c1, .slice q.a2 q.n2 q.c2, .slice q.a3 q.n3 q.c3] := known_in hK 38 (by kernel_rfl)
    have k39 : slot fr 39 = .int .i64 a := known_in hK 39 (by kernel_rfl)
    clear hK
    unfold slot at k38 k39
    go_simp
    refine (opened_p s' q a w ((HRX.out.below hC).more (Below.size hC)) HTK.out HSM.out ha).mono ?_
    rintro e w' ⟨rfl, hb⟩
    exact hk _ _ hb rfl
  · refine owed_wval _ rfl rfl rfl (by kernel_rfl) (fun _ _ h => h) (fun _ => rfl) fun fr w hC hK => ?_
    have k3 : slot fr 3 = .pointer (some ⟨u.heap.size, 0, none⟩) := known_out hK 3 (by kernel_rfl)
    clear hK
    unfold slot at k3
    have x0 := (HKX.out.below hC hlx).cell 0
    have x1 := (HKX.out.below hC hlx).cell 1
    have x2 := (HKX.out.below hC hlx).cell 2
    have x3 := (HKX.out.below hC hlx).cell 3
    have x4 := (HKX.out.below hC hlx).cell 4
    have x5 := (HKX.out.below hC hlx).cell 5
    have x6 := (HKX.out.below hC hlx).cell 6
    simp [stblk] at x0 x1 x2 x3 x4 x5 x6
    go_simp
  · exact owed_movew rfl rfl rfl (by kernel_rfl) (fun _ _ h => h) (.inl rfl) fun fr w _ hK => known_out hK 2 (by kernel_rfl)
  · refine owed_wanted rfl rfl rfl (by kernel_rfl) (fun _ _ h => h) fun fr w hC hK K hk => ?_
    have k41 : slot fr 41 = .agg #[.int .i64 s'.version, .int .i64 s'.next, .int .i64 s'.keep, .int .i64 s'.quota, .slice q.a1 q.n1 q.c1, .slice q.a2 q.n2 q.c2, .slice q.a3 q.n3 q.c3] := known_in hK 41 (by kernel_rfl)
    have k42 : slot fr 42 = .int .i64 a := known_in hK 42 (by kernel_rfl)
    clear hK
    unfold slot at k41 k42
    go_simp
    refine (opened7_any s' q a w ((HRX.out.below hC).more (Below.size hC)) HTK.out ha).mono ?_
    rintro e w' ⟨rfl, hb⟩
    exact hk _ _ hb rfl
  · refine owed_wval _ rfl rfl rfl (by kernel_rfl) (fun _ _ h => h) (fun _ => rfl) fun fr w hC hK => ?_
    have k40 : slot fr 40 = .int .i64 (openedS s' a) := known_in hK 40 (by kernel_rfl)
    have k43 : slot fr 43 = .int .i64 (openedS s' a) := known_in hK 43 (by kernel_rfl)
    clear hK
    unfold slot at k40 k43
    go_simp
  · refine owed_val _ rfl rfl (fun _ => rfl) fun fr w hC hK => ?_
    have k37 : slot fr 37 = .bool true := known_in hK 37 (by kernel_rfl)
    have k44 : slot fr 44 = .bool true := known_in hK 44 (by kernel_rfl)
    clear hK
    unfold slot at k37 k44
    go_simp
  · exact owed_move rfl rfl (.inl rfl) fun fr w _ hK => known_in hK 45 (by kernel_rfl)
  · refine owed_wval _ rfl rfl rfl (by kernel_rfl) (fun _ _ h => h) (fun _ => rfl) fun fr w hC hK => ?_
    have k3 : slot fr 3 = .pointer (some ⟨u.heap.size, 0, none⟩) := known_out hK 3 (by kernel_rfl)
    clear hK
    unfold slot at k3
    have x0 := (HKX.out.below hC hlx).cell 0
    have x1 := (HKX.out.below hC hlx).cell 1
    have x2 := (HKX.out.below hC hlx).cell 2
    have x3 := (HKX.out.below hC hlx).cell 3
    have x4 := (HKX.out.below hC hlx).cell 4
    have x5 := (HKX.out.below hC hlx).cell 5
    have x6 := (HKX.out.below hC hlx).cell 6
    simp [stblk] at x0 x1 x2 x3 x4 x5 x6
    go_simp
  · exact owed_movew rfl rfl rfl (by kernel_rfl) (fun _ _ h => h) (.inl rfl) fun fr w _ hK => known_out hK 2 (by kernel_rfl)
  · refine owed_wanted rfl rfl rfl (by kernel_rfl) (fun _ _ h => h) fun fr w hC hK K hk => ?_
    have k47 : slot fr 47 = .agg #[.int .i64 s'.version, .int .i64 s'.next, .int .i64 s'.keep, .int .i64 s'.quota, .slice q.a1 q.n1 q.c1, .slice q.a2 q.n2 q.c2, .slice q.a3 q.n3 q.c3] := known_in hK 47 (by kernel_rfl)
    have k48 : slot fr 48 = .int .i64 a := known_in hK 48 (by kernel_rfl)
    clear hK
    unfold slot at k47 k48
    go_simp
    refine (snapid_p s' q a w ((HRX.out.below hC).more (Below.size hC)) HTK.out HSM.out ha).mono ?_
    rintro e w' ⟨rfl, hb⟩
    exact hk _ _ hb rfl
  · refine owed_wval _ rfl rfl rfl (by kernel_rfl) (fun _ _ h => h) (fun _ => rfl) fun fr w hC hK => ?_
    have k3 : slot fr 3 = .pointer (some ⟨u.heap.size, 0, none⟩) := known_out hK 3 (by kernel_rfl)
    clear hK
    unfold slot at k3
    have x0 := (HKX.out.below hC hlx).cell 0
    have x1 := (HKX.out.below hC hlx).cell 1
    have x2 := (HKX.out.below hC hlx).cell 2
    have x3 := (HKX.out.below hC hlx).cell 3
    have x4 := (HKX.out.below hC hlx).cell 4
    have x5 := (HKX.out.below hC hlx).cell 5
    have x6 := (HKX.out.below hC hlx).cell 6
    simp [stblk] at x0 x1 x2 x3 x4 x5 x6
    go_simp
  · exact owed_movew rfl rfl rfl (by kernel_rfl) (fun _ _ h => h) (.inl rfl) fun fr w _ hK => known_out hK 2 (by kernel_rfl)
  · refine owed_wanted rfl rfl rfl (by kernel_rfl) (fun _ _ h => h) fun fr w hC hK K hk => ?_
    have k50 : slot fr 50 = .agg #[.int .i64 s'.version, .int .i64 s'.next, .int .i64 s'.keep, .int .i64 s'.quota, .slice q.a1 q.n1 q.c1, .slice q.a2 q.n2 q.c2, .slice q.a3 q.n3 q.c3] := known_in hK 50 (by kernel_rfl)
    have k51 : slot fr 51 = .int .i64 a := known_in hK 51 (by kernel_rfl)
    clear hK
    unfold slot at k50 k51
    go_simp
    refine (snap7id_any s' q a w ((HRX.out.below hC).more (Below.size hC)) HTK.out ha).mono ?_
    rintro e w' ⟨rfl, hb⟩
    exact hk _ _ hb rfl
  · refine owed_wval _ rfl rfl rfl (by kernel_rfl) (fun _ _ h => h) (fun _ => rfl) fun fr w hC hK => ?_
    have k49 : slot fr 49 = .int .i64 (snapS s' a) := known_in hK 49 (by kernel_rfl)
    have k52 : slot fr 52 = .int .i64 (snapS s' a) := known_in hK 52 (by kernel_rfl)
    clear hK
    unfold slot at k49 k52
    go_simp
  · refine owed_val _ rfl rfl (fun _ => rfl) fun fr w hC hK => ?_
    have k46 : slot fr 46 = .bool true := known_in hK 46 (by kernel_rfl)
    have k53 : slot fr 53 = .bool true := known_in hK 53 (by kernel_rfl)
    clear hK
    unfold slot at k46 k53
    go_simp
  · exact owed_move rfl rfl (.inl rfl) fun fr w _ hK => known_in hK 54 (by kernel_rfl)
  · refine owed_wval _ rfl rfl rfl (by kernel_rfl) (fun _ _ h => h) (fun _ => rfl) fun fr w hC hK => ?_
    have k3 : slot fr 3 = .pointer (some ⟨u.heap.size, 0, none⟩) := known_out hK 3 (by kernel_rfl)
    clear hK
    unfold slot at k3
    have x0 := (HKX.out.below hC hlx).cell 0
    have x1 := (HKX.out.below hC hlx).cell 1
    have x2 := (HKX.out.below hC hlx).cell 2
    have x3 := (HKX.out.below hC hlx).cell 3
    have x4 := (HKX.out.below hC hlx).cell 4
    have x5 := (HKX.out.below hC hlx).cell 5
    have x6 := (HKX.out.below hC hlx).cell 6
    simp [stblk] at x0 x1 x2 x3 x4 x5 x6
    go_simp
  · exact owed_movew rfl rfl rfl (by kernel_rfl) (fun _ _ h => h) (.inl rfl) fun fr w _ hK => known_out hK 2 (by kernel_rfl)
  · refine owed_wanted rfl rfl rfl (by kernel_rfl) (fun _ _ h => h) fun fr w hC hK K hk => ?_
    have k56 : slot fr 56 = .agg #[.int .i64 s'.version, .int .i64 s'.next, .int .i64 s'.keep, .int .i64 s'.quota, .slice q.a1 q.n1 q.c1, .slice q.a2 q.n2 q.c2, .slice q.a3 q.n3 q.c3] := known_in hK 56 (by kernel_rfl)
    have k57 : slot fr 57 = .int .i64 a := known_in hK 57 (by kernel_rfl)
    clear hK
    unfold slot at k56 k57
    go_simp
    refine (kept_p s' q a w ((HRX.out.below hC).more (Below.size hC)) HTK.out HSM.out ha).mono ?_
    rintro e w' ⟨rfl, hb⟩
    exact hk _ _ hb rfl
  · refine owed_wval _ rfl rfl rfl (by kernel_rfl) (fun _ _ h => h) (fun _ => rfl) fun fr w hC hK => ?_
    have k3 : slot fr 3 = .pointer (some ⟨u.heap.size, 0, none⟩) := known_out hK 3 (by kernel_rfl)
    clear hK
    unfold slot at k3
    have x0 := (HKX.out.below hC hlx).cell 0
    have x1 := (HKX.out.below hC hlx).cell 1
    have x2 := (HKX.out.below hC hlx).cell 2
    have x3 := (HKX.out.below hC hlx).cell 3
    have x4 := (HKX.out.below hC hlx).cell 4
    have x5 := (HKX.out.below hC hlx).cell 5
    have x6 := (HKX.out.below hC hlx).cell 6
    simp [stblk] at x0 x1 x2 x3 x4 x5 x6
    go_simp
  · exact owed_movew rfl rfl rfl (by kernel_rfl) (fun _ _ h => h) (.inl rfl) fun fr w _ hK => known_out hK 2 (by kernel_rfl)
  · refine owed_wanted rfl rfl rfl (by kernel_rfl) (fun _ _ h => h) fun fr w hC hK K hk => ?_
    have k59 : slot fr 59 = .agg #[.int .i64 s'.version, .int .i64 s'.next, .int .i64 s'.keep, .int .i64 s'.quota, .slice q.a1 q.n1 q.c1, .slice q.a2 q.n2 q.c2, .slice q.a3 q.n3 q.c3] := known_in hK 59 (by kernel_rfl)
    have k60 : slot fr 60 = .int .i64 a := known_in hK 60 (by kernel_rfl)
    clear hK
    unfold slot at k59 k60
    go_simp
    refine (kept7_any s' q a w ((HRX.out.below hC).more (Below.size hC)) HTK.out ha).mono ?_
    rintro e w' ⟨rfl, hb⟩
    exact hk _ _ hb rfl
  · refine owed_wval _ rfl rfl rfl (by kernel_rfl) (fun _ _ h => h) (fun _ => rfl) fun fr w hC hK => ?_
    have k58 : slot fr 58 = .bool (keptS s' a) := known_in hK 58 (by kernel_rfl)
    have k61 : slot fr 61 = .bool (keptS s' a) := known_in hK 61 (by kernel_rfl)
    clear hK
    unfold slot at k58 k61
    go_simp
  · refine owed_val _ rfl rfl (fun _ => rfl) fun fr w hC hK => ?_
    have k55 : slot fr 55 = .bool true := known_in hK 55 (by kernel_rfl)
    have k62 : slot fr 62 = .bool true := known_in hK 62 (by kernel_rfl)
    clear hK
    unfold slot at k55 k62
    go_simp
  · exact owed_move rfl rfl (.inr rfl) fun fr w _ hK => known_in hK 63 (by kernel_rfl)
  intro vs w9 hg9 hgood
  have h6 : vs 6 = .bool true := hgood.2.2.2.2.2.2.2.2.2.2.2.2.2.2.2.2.2.2.2.2.2.2.2.2.2.2.2.2.2.2.2.2.2.2.2.2.2.2.2.2.2.2.2.2.2.2.2.2.2.1
  clear hgood
  simp only [putsOf]
  rw [h6]
  go_simp
  go_wp2
  go_ret
  exact ⟨rfl, hbw6.trans (Below.mono hg9 hbw6.size)⟩
end Go.Proofs.Ytdkjdiamekfbdaa
