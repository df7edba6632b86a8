/-
  The walk of the law StateGrows.
-/
import Derived.Test.YtdkjdiamekfbdaaStLaw
import Derived.Test.YtdkjdiamekfbdaaStGrowsP
namespace Go.Proofs.Ytdkjdiamekfbdaa
open Go.RowKit
open Rf (Snp)
open St (Ses Opn Sta mayS clientS openedS snapS keptS)

set_option maxHeartbeats 8000000 in
set_option maxRecDepth 100000 in
theorem stgrows1 (s : Sta) (p : Pls) (k : Int) (u : World) (h : RdT u u.heap.size s p) (ht : Tok s) (hk : bits .and .u8 k 1 = 0) : Calls Try.prog 5 #[stagg s p, .int .u8 k] u fun e w' => e = .returned (.bool true) ∧ Below u.heap.size u w' := by
  obtain ⟨k0, hki, kz0, kz1, kz2⟩ := info_parts snap_info
  obtain ⟨w0, hw0, hk0, hb0, hs0⟩ := box_st u s p 26
  obtain ⟨s', hs'⟩ : ∃ s', lessT s = s' := ⟨_, rfl⟩
  have HTK := Lib.hid (show Tok s' by rw [← hs']; exact lessT_tok ht)
  have HSM := Lib.hid (show Small s' by rw [← hs']; exact lessT_small s)
  have HLN := Lib.hid (show s'.sess.length ≤ 20 ∧ s'.opens.length ≤ 20 ∧ s'.snaps.length ≤ 20 ∧ ∀ a ∈ s'.snaps, a.chunks.length ≤ 12 ∧ a.tag.length ≤ 40 by rw [← hs']; exact lessT_len s)
  have HLS := Lib.hid (fun (w : World) (hb : Below u.heap.size u w) => (by have := less_any s p u.heap.size w (h.below hb) hb.size; rw [hs'] at this; exact this : Calls Try.prog 10 #[stagg s p] w (LsBack w u.heap.size s')))
  have HK0 := Lib.hid hk0
  have HW := Lib.hid hw0
  clear h ht hs' hk0 hw0
  unfold stagg stblk
  go_enter Try.func5, Try.ntmps5
  go_upto_region 1 with fail
  rw [show u.alloc (.cells #[.int .i64 s.version, .int .i64 s.next, .int .i64 s.keep, .int .i64 s.quota, .slice p.a1 p.n1 p.c1, .slice p.a2 p.n2 p.c2, .slice p.a3 p.n3 p.c3] 26) = w0 from HW.out.symm]
  go_wp2_with fail
  refine (stshown_any _).mono ?_
  rintro e w1 ⟨rfl, hb1⟩
  have hbw1 : Below u.heap.size u w1 := hb0.trans (hb1.mono hb0.size)
  have hgl : u.heap.size < w1.heap.size := Nat.lt_of_lt_of_le hs0 hb1.size
  have hk1 := HK0.out.below hb1 hs0
  obtain ⟨c0, c1, c2, c3, c4, c5, c6⟩ := stblk_cells hk1
  have HK1 := Lib.hid hk1
  clear hk1
  go_wp2_with fail
  refine (HLS.out w1 hbw1).mono ?_
  rintro e w2 ⟨q, rfl, hlt, hb2⟩
  have hk2 := HK1.out.below hb2 hgl
  obtain ⟨d0, d1, d2, d3, d4, d5, d6⟩ := stblk_cells hk2
  have z0 := hk2.frozen 0
  have z1 := hk2.frozen 1
  have z2 := hk2.frozen 2
  have z3 := hk2.frozen 3
  have z4 := hk2.frozen 4
  have z5 := hk2.frozen 5
  have z6 := hk2.frozen 6
  have hbw2 : Below u.heap.size u w2 := hbw1.trans (hb2.mono hbw1.size)
  obtain ⟨hk3, hg3⟩ := stput_blk (s' := s') (q' := q) hk2
  have hlt3 := hlt.grown hg3 (Nat.le_refl _) hgl hbw2.size
  obtain ⟨w3, hw3⟩ : ∃ w3, w3 = stput w2 u.heap.size s' q := ⟨_, rfl⟩
  rw [← hw3] at hk3 hg3 hlt3
  have hbw3 : Below u.heap.size u w3 := hbw2.grown hg3 hbw2.size (fun k hk => by injection hk with hk; omega)
  have hl3 := hk3.lt
  have HRT := Lib.hid (hlt3.rdt hbw3.size)
  have HLT := Lib.hid hlt3
  have HK3 := Lib.hid hk3
  have HW3 := Lib.hid hw3
  clear hlt hlt3 hk2 hk3 hg3 hw3 c0 c1 c2 c3 c4 c5 c6
  unfold stagg stblk
  go_upto_region 3 with fail
  rw [show ((((((w2.setCell ⟨u.heap.size, 0, none⟩ (.int .i64 s'.version)).setCell ⟨u.heap.size, 1, none⟩ (.int .i64 s'.next)).setCell ⟨u.heap.size, 2, none⟩ (.int .i64 s'.keep)).setCell ⟨u.heap.size, 3, none⟩ (.int .i64 s'.quota)).setCell ⟨u.heap.size, 4, none⟩ (.slice q.a1 q.n1 q.c1)).setCell ⟨u.heap.size, 5, none⟩ (.slice q.a2 q.n2 q.c2)).setCell ⟨u.heap.size, 6, none⟩ (.slice q.a3 q.n3 q.c3) = w3 from HW3.out.symm]
  clear d0 d1 d2 d3 d4 d5 d6 z0 z1 z2 z3 z4 z5 z6
  obtain ⟨c0, c1, c2, c3, c4, c5, c6⟩ := stblk_cells HK3.out
  have m3 : q.n3 ≤ 20 := by rw [← HRT.out.snaps.1]; exact HLN.out.2.2.1
  obtain ⟨O, hO⟩ : ∃ O, mayS s' 1 = O := ⟨_, rfl⟩
  obtain ⟨N, hN⟩ : ∃ N, mayS s' 2 = N := ⟨_, rfl⟩
  have HON := Lib.hid (show O = 0 → N = 0 by rw [← hO, ← hN]; exact grows_1)
  have HNB := Lib.hid (show N = 0 → mayS (bareS1 s') 1 = 0 by rw [← hN]; exact bare_1)
  have HO := Lib.hid hO
  have HN := Lib.hid hN
  have hfs := field_st0
  clear hO hN
  go_wp2_with fail
  refine (may_p s' q 1 w3 HRT.out HTK.out HSM.out (by unfold I64; decide)).mono ?_
  rintro e w4 ⟨rfl, hb4⟩
  rw [HO.out]
  have hk4 := HK3.out.below hb4 hl3
  clear c0 c1 c2 c3 c4 c5 c6
  obtain ⟨c0, c1, c2, c3, c4, c5, c6⟩ := stblk_cells hk4
  have hl4 : u.heap.size < w4.heap.size := Nat.lt_of_lt_of_le hl3 hb4.size
  go_wp2_with fail
  refine (may_p s' q 2 w4 ((HRT.out.below hb4).more hb4.size) HTK.out HSM.out (by unfold I64; decide)).mono ?_
  rintro e w5 ⟨rfl, hb5⟩
  rw [HN.out]
  have hb35 := hb4.trans (hb5.mono hb4.size)
  have hk5 := hk4.below hb5 hl4
  clear c0 c1 c2 c3 c4 c5 c6 hk4
  obtain ⟨c0, c1, c2, c3, c4, c5, c6⟩ := stblk_cells hk5
  have hl5 : u.heap.size < w5.heap.size := Nat.lt_of_lt_of_le hl4 hb5.size
  have HR5 := Lib.hid ((HRT.out.below hb35).more hb35.size)
  have hbw5 := hbw3.trans (hb35.mono hbw3.size)
  have HK5 := Lib.hid hk5
  have HINV := Lib.hid (show GrInv w5 (w5.alloc (.cells #[.int .i64 s'.version, .int .i64 s'.next, .int .i64 s'.keep, .int .i64 s'.quota, .slice q.a1 q.n1 q.c1, .slice q.a2 q.n2 q.c2, .slice none 0 0] 26)) s' q s'.quota bare1 0 (.slice none 0 0) from ⟨Blk.new _ _ _, by simpa [pcells] using World.ownsRow_nil _ _ _ _, (Below.refl _ _).alloc (Nat.le_refl _) _⟩)
  clear hk5
  go_upto_region 10 with fail
  go_wp2
  go_loopw [10] (fun i wr => ∃ (j : Nat) (v : Value), j ≤ q.n3 ∧ i = .int .i64 (j : Int) ∧ GrInv w5 wr s' q s'.quota bare1 j v) (fun i _ => q.n3 - (intOf i).toNat)
  case atStart => exact ⟨0, _, Nat.zero_le _, rfl, HINV.out⟩
  case round =>
    obtain ⟨j, v, hj, rfl, hgi⟩ := hrel
    obtain ⟨A3, q3, rfl, hA3, hq3⟩ := slice_of_own hgi.row
    have HG := Lib.hid hgi
    have hb := hgi.below
    have hsz := hb.size
    have y6 : wr.cell? ⟨u.heap.size, 6, none⟩ = some (.slice q.a3 q.n3 q.c3) := (HK5.out.below hb hl5).cell 6
    have hlo := hgi.out.lt
    clear hgi c0 c1 c2 c3 c4 c5 c6
    by_cases hlt : j < q.n3
    · obtain ⟨ad, x, ⟨t1, t2⟩, had, hab, hx, htt, g0, g1, g2, g3, g4, e1, e2, e3⟩ := rds_get (HR5.out.snaps.below hb) hlt
      rw [had] at y6
      simp only [] at g2 e1 e2 e3
      have HX := Lib.hid hx
      have HT := Lib.hid htt
      have hji : (j : Int) < (q.n3 : Int) := by omega
      have o6 : (wr.alloc (.cells #[.int .i64 x.id, .int .i64 x.set, .slice t1 x.chunks.length t2, .bool false, .string (strOf x.tag)] 38)).cell? ⟨w5.heap.size, 6, none⟩ = some (.slice A3 j q3) := (HG.out.out.alloc _).cell 6
      have hr6 : Rd ((wr.alloc (.cells #[.int .i64 x.id, .int .i64 x.set, .slice t1 x.chunks.length t2, .bool false, .string (strOf x.tag)] 38)).alloc (.cells #[.int .i64 x.id, .int .i64 x.set, .slice t1 x.chunks.length t2, .bool false, .string (strOf x.tag)] 38)) (wr.heap.size + 1 + 1) 5 (some ⟨wr.heap.size + 1, 0, none⟩) 1 [.int .i64 x.id, .int .i64 x.set, .slice t1 x.chunks.length t2, .bool false, .string (strOf x.tag)] := by
        have := rd_cells (wr.alloc (.cells #[.int .i64 x.id, .int .i64 x.set, .slice t1 x.chunks.length t2, .bool false, .string (strOf x.tag)] 38)) [.int .i64 x.id, .int .i64 x.set, .slice t1 x.chunks.length t2, .bool false, .string (strOf x.tag)] 38 (size := 5) (n := 1) rfl
        simpa using this
      clear had hx htt e1
      go_wp2_with (at_builtin; refine wpList_append_rd _ rfl (.tmp 50) (.tmp 52) 24 rfl w5.heap.size 38 k0 (.agg #[.int .i64 0, .int .i64 0, .slice none 0 0, .bool false, .string (strOf [])]) 5 64 Try.underlying24 hki kz0 kz1 kz2 rfl (by decide) _ j _ rfl ((HG.out.row.alloc _).alloc _) (wr.heap.size + 1 + 1) (some ⟨wr.heap.size + 1, 0, none⟩) 1 1 [.int .i64 x.id, .int .i64 x.set, .slice t1 x.chunks.length t2, .bool false, .string (strOf x.tag)] rfl hr6 (by intro e he; simp at he; rcases he with rfl | rfl | rfl | rfl | rfl <;> rfl) (by unfold maxLen; omega) (by omega) (by simp; omega) ?_)
      intro v8 w8 o8 g8
      obtain ⟨A8, q8, rfl, hA8, hq8⟩ := slice_of_own o8
      have out8 := blk_kept ((HG.out.out.alloc (.cells #[.int .i64 x.id, .int .i64 x.set, .slice t1 x.chunks.length t2, .bool false, .string (strOf x.tag)] 38)).alloc (.cells #[.int .i64 x.id, .int .i64 x.set, .slice t1 x.chunks.length t2, .bool false, .string (strOf x.tag)] 38)) g8 (blk_apart HG.out.out HG.out.row (by decide))
      have z8 := out8.frozen 6
      have y8 : w8.cell? ⟨w5.heap.size, 6, none⟩ = some (.slice A3 j q3) := out8.cell 6
      have STEP := Lib.hid (HG.out.step (by rw [HR5.out.snaps.1, HR5.out.snaps.2.1]) HX.out HT.out rfl o8 g8)
      clear o8 g8 out8
      go_wp2
      go_roundw
      case rel => exact ⟨j + 1, _, by omega, by go_num, STEP.out⟩
      case measure => simp [intOf]; omega
    · obtain rfl : j = q.n3 := by omega
      have hrb := HG.out.rdt (s2 := bareS1 s') HR5.out (fun _ => rfl) rfl rfl rfl
      have HRB := Lib.hid hrb
      have hko := HG.out.out
      have HKO := Lib.hid hko
      have hbwr := hbw5.trans (hb.mono hbw5.size)
      clear hrb hko
      by_cases hN0 : N = 0
      · have qn : ((N : Int) != 0) = false := by rw [hN0]; rfl
        have HBM := Lib.hid (HNB.out hN0)
        obtain ⟨qo, hqo⟩ : ∃ b, ((O : Int) == 0) = b := ⟨_, rfl⟩
        clear hN0
        cases qo
        all_goals
          go_wp2_with fail
          refine (fresh_p wr).mono ?_
          rintro e w6 ⟨p6, rfl, hr6, hb6⟩
          unfold stagg stblk St.fresh
          go_wp2_with fail
          refine (fresh_p w6).mono ?_
          rintro e w7 ⟨p7, rfl, hr7, hb7⟩
          go_wp2_with fail
          refine (may_p St.fresh p7 1 w7 hr7 tok_fresh small_fresh (by unfold I64; decide)).mono ?_
          rintro e w9 ⟨rfl, hb9⟩
          rw [fresh_may1]
          have hb69 := (hb6.trans (hb7.mono hb6.size)).trans (hb9.mono (Nat.le_trans hb6.size hb7.size))
          obtain ⟨c0, c1, c2, c3, c4, c5, c6⟩ := stblk_cells (s := bareS1 s') (p := ⟨q.a1, q.n1, q.c1, q.a2, q.n2, q.c2, A3, q.n3, q3, q.S⟩) (HKO.out.below hb69 hlo)
          have HR9 := Lib.hid ((HRB.out.below hb69).more hb69.size)
          simp only [bareS1] at c0 c1 c2 c3
          simp only [] at c4 c5 c6
          go_wp2_with fail
          refine (may_p (bareS1 s') ⟨q.a1, q.n1, q.c1, q.a2, q.n2, q.c2, A3, q.n3, q3, q.S⟩ 1 w9 HR9.out (bare1_tok HTK.out) (bare1_small HSM.out) (by unfold I64; decide)).mono ?_
          rintro e w10 ⟨rfl, hb10⟩
          rw [HBM.out]
          go_wp2
          go_ret
          exact ⟨rfl, hbwr.trans ((hb69.trans (hb10.mono hb69.size)).mono hbwr.size)⟩
      · have qn : ((N : Int) != 0) = true := by rw [bne_iff_ne]; omega
        have qo : ((O : Int) == 0) = false := by rw [beq_eq_false_iff_ne]; intro e; exact hN0 (HON.out (by omega))
        clear hN0
        go_wp2_with fail
        refine (fresh_p wr).mono ?_
        rintro e w6 ⟨p6, rfl, hr6, hb6⟩
        unfold stagg stblk St.fresh
        go_wp2_with fail
        refine (fresh_p w6).mono ?_
        rintro e w7 ⟨p7, rfl, hr7, hb7⟩
        go_wp2_with fail
        refine (may_p St.fresh p7 1 w7 hr7 tok_fresh small_fresh (by unfold I64; decide)).mono ?_
        rintro e w9 ⟨rfl, hb9⟩
        rw [fresh_may1]
        have hb69 := (hb6.trans (hb7.mono hb6.size)).trans (hb9.mono (Nat.le_trans hb6.size hb7.size))
        go_wp2
        go_ret
        exact ⟨rfl, hbwr.trans (hb69.mono hbwr.size)⟩

set_option maxHeartbeats 8000000 in
set_option maxRecDepth 100000 in
theorem stgrows2 (s : Sta) (p : Pls) (k : Int) (u : World) (h : RdT u u.heap.size s p) (ht : Tok s) (hk : bits .and .u8 k 1 = 1) : Calls Try.prog 5 #[stagg s p, .int .u8 k] u fun e w' => e = .returned (.bool true) ∧ Below u.heap.size u w' := by
  obtain ⟨k0, hki, kz0, kz1, kz2⟩ := info_parts snap_info
  obtain ⟨w0, hw0, hk0, hb0, hs0⟩ := box_st u s p 26
  obtain ⟨s', hs'⟩ : ∃ s', lessT s = s' := ⟨_, rfl⟩
  have HTK := Lib.hid (show Tok s' by rw [← hs']; exact lessT_tok ht)
  have HSM := Lib.hid (show Small s' by rw [← hs']; exact lessT_small s)
  have HLN := Lib.hid (show s'.sess.length ≤ 20 ∧ s'.opens.length ≤ 20 ∧ s'.snaps.length ≤ 20 ∧ ∀ a ∈ s'.snaps, a.chunks.length ≤ 12 ∧ a.tag.length ≤ 40 by rw [← hs']; exact lessT_len s)
  have HLS := Lib.hid (fun (w : World) (hb : Below u.heap.size u w) => (by have := less_any s p u.heap.size w (h.below hb) hb.size; rw [hs'] at this; exact this : Calls Try.prog 10 #[stagg s p] w (LsBack w u.heap.size s')))
  have HK0 := Lib.hid hk0
  have HW := Lib.hid hw0
  clear h ht hs' hk0 hw0
  unfold stagg stblk
  go_enter Try.func5, Try.ntmps5
  go_upto_region 1 with fail
  rw [show u.alloc (.cells #[.int .i64 s.version, .int .i64 s.next, .int .i64 s.keep, .int .i64 s.quota, .slice p.a1 p.n1 p.c1, .slice p.a2 p.n2 p.c2, .slice p.a3 p.n3 p.c3] 26) = w0 from HW.out.symm]
  go_wp2_with fail
  refine (stshown_any _).mono ?_
  rintro e w1 ⟨rfl, hb1⟩
  have hbw1 : Below u.heap.size u w1 := hb0.trans (hb1.mono hb0.size)
  have hgl : u.heap.size < w1.heap.size := Nat.lt_of_lt_of_le hs0 hb1.size
  have hk1 := HK0.out.below hb1 hs0
  obtain ⟨c0, c1, c2, c3, c4, c5, c6⟩ := stblk_cells hk1
  have HK1 := Lib.hid hk1
  clear hk1
  go_wp2_with fail
  refine (HLS.out w1 hbw1).mono ?_
  rintro e w2 ⟨q, rfl, hlt, hb2⟩
  have hk2 := HK1.out.below hb2 hgl
  obtain ⟨d0, d1, d2, d3, d4, d5, d6⟩ := stblk_cells hk2
  have z0 := hk2.frozen 0
  have z1 := hk2.frozen 1
  have z2 := hk2.frozen 2
  have z3 := hk2.frozen 3
  have z4 := hk2.frozen 4
  have z5 := hk2.frozen 5
  have z6 := hk2.frozen 6
  have hbw2 : Below u.heap.size u w2 := hbw1.trans (hb2.mono hbw1.size)
  obtain ⟨hk3, hg3⟩ := stput_blk (s' := s') (q' := q) hk2
  have hlt3 := hlt.grown hg3 (Nat.le_refl _) hgl hbw2.size
  obtain ⟨w3, hw3⟩ : ∃ w3, w3 = stput w2 u.heap.size s' q := ⟨_, rfl⟩
  rw [← hw3] at hk3 hg3 hlt3
  have hbw3 : Below u.heap.size u w3 := hbw2.grown hg3 hbw2.size (fun k hk => by injection hk with hk; omega)
  have hl3 := hk3.lt
  have HRT := Lib.hid (hlt3.rdt hbw3.size)
  have HLT := Lib.hid hlt3
  have HK3 := Lib.hid hk3
  have HW3 := Lib.hid hw3
  clear hlt hlt3 hk2 hk3 hg3 hw3 c0 c1 c2 c3 c4 c5 c6
  unfold stagg stblk
  go_upto_region 3 with fail
  rw [show ((((((w2.setCell ⟨u.heap.size, 0, none⟩ (.int .i64 s'.version)).setCell ⟨u.heap.size, 1, none⟩ (.int .i64 s'.next)).setCell ⟨u.heap.size, 2, none⟩ (.int .i64 s'.keep)).setCell ⟨u.heap.size, 3, none⟩ (.int .i64 s'.quota)).setCell ⟨u.heap.size, 4, none⟩ (.slice q.a1 q.n1 q.c1)).setCell ⟨u.heap.size, 5, none⟩ (.slice q.a2 q.n2 q.c2)).setCell ⟨u.heap.size, 6, none⟩ (.slice q.a3 q.n3 q.c3) = w3 from HW3.out.symm]
  clear d0 d1 d2 d3 d4 d5 d6 z0 z1 z2 z3 z4 z5 z6
  obtain ⟨c0, c1, c2, c3, c4, c5, c6⟩ := stblk_cells HK3.out
  have m3 : q.n3 ≤ 20 := by rw [← HRT.out.snaps.1]; exact HLN.out.2.2.1
  obtain ⟨O, hO⟩ : ∃ O, mayS s' 2 = O := ⟨_, rfl⟩
  obtain ⟨N, hN⟩ : ∃ N, mayS s' 3 = N := ⟨_, rfl⟩
  have HON := Lib.hid (show O = 0 → N = 0 by rw [← hO, ← hN]; exact grows_2)
  have HNB := Lib.hid (show N = 0 → mayS (bareS2 s') 2 = 0 by rw [← hN]; exact bare_2)
  have HO := Lib.hid hO
  have HN := Lib.hid hN
  have hfs := field_st0
  clear hO hN
  go_wp2_with fail
  refine (may_p s' q 2 w3 HRT.out HTK.out HSM.out (by unfold I64; decide)).mono ?_
  rintro e w4 ⟨rfl, hb4⟩
  rw [HO.out]
  have hk4 := HK3.out.below hb4 hl3
  clear c0 c1 c2 c3 c4 c5 c6
  obtain ⟨c0, c1, c2, c3, c4, c5, c6⟩ := stblk_cells hk4
  have hl4 : u.heap.size < w4.heap.size := Nat.lt_of_lt_of_le hl3 hb4.size
  go_wp2_with fail
  refine (may_p s' q 3 w4 ((HRT.out.below hb4).more hb4.size) HTK.out HSM.out (by unfold I64; decide)).mono ?_
  rintro e w5 ⟨rfl, hb5⟩
  rw [HN.out]
  have hb35 := hb4.trans (hb5.mono hb4.size)
  have hk5 := hk4.below hb5 hl4
  clear c0 c1 c2 c3 c4 c5 c6 hk4
  obtain ⟨c0, c1, c2, c3, c4, c5, c6⟩ := stblk_cells hk5
  have hl5 : u.heap.size < w5.heap.size := Nat.lt_of_lt_of_le hl4 hb5.size
  have HR5 := Lib.hid ((HRT.out.below hb35).more hb35.size)
  have hbw5 := hbw3.trans (hb35.mono hbw3.size)
  have HK5 := Lib.hid hk5
  have HINV := Lib.hid (show GrInv w5 (w5.alloc (.cells #[.int .i64 s'.version, .int .i64 s'.next, .int .i64 s'.keep, .int .i64 0, .slice q.a1 q.n1 q.c1, .slice q.a2 q.n2 q.c2, .slice none 0 0] 26)) s' q 0 bare2 0 (.slice none 0 0) from ⟨Blk.new _ _ _, by simpa [pcells] using World.ownsRow_nil _ _ _ _, (Below.refl _ _).alloc (Nat.le_refl _) _⟩)
  clear hk5
  go_upto_region 10 with fail
  go_wp2
  go_loopw [10] (fun i wr => ∃ (j : Nat) (v : Value), j ≤ q.n3 ∧ i = .int .i64 (j : Int) ∧ GrInv w5 wr s' q 0 bare2 j v) (fun i _ => q.n3 - (intOf i).toNat)
  case atStart => exact ⟨0, _, Nat.zero_le _, rfl, HINV.out⟩
  case round =>
    obtain ⟨j, v, hj, rfl, hgi⟩ := hrel
    obtain ⟨A3, q3, rfl, hA3, hq3⟩ := slice_of_own hgi.row
    have HG := Lib.hid hgi
    have hb := hgi.below
    have hsz := hb.size
    have y6 : wr.cell? ⟨u.heap.size, 6, none⟩ = some (.slice q.a3 q.n3 q.c3) := (HK5.out.below hb hl5).cell 6
    have hlo := hgi.out.lt
    clear hgi c0 c1 c2 c3 c4 c5 c6
    by_cases hlt : j < q.n3
    · obtain ⟨ad, x, ⟨t1, t2⟩, had, hab, hx, htt, g0, g1, g2, g3, g4, e1, e2, e3⟩ := rds_get (HR5.out.snaps.below hb) hlt
      rw [had] at y6
      simp only [] at g2 e1 e2 e3
      have HX := Lib.hid hx
      have HT := Lib.hid htt
      have hji : (j : Int) < (q.n3 : Int) := by omega
      have o6 : (wr.alloc (.cells #[.int .i64 x.id, .int .i64 x.set, .slice t1 x.chunks.length t2, .bool x.held, .string ⟨#[]⟩] 38)).cell? ⟨w5.heap.size, 6, none⟩ = some (.slice A3 j q3) := (HG.out.out.alloc _).cell 6
      have hr6 : Rd ((wr.alloc (.cells #[.int .i64 x.id, .int .i64 x.set, .slice t1 x.chunks.length t2, .bool x.held, .string ⟨#[]⟩] 38)).alloc (.cells #[.int .i64 x.id, .int .i64 x.set, .slice t1 x.chunks.length t2, .bool x.held, .string ⟨#[]⟩] 38)) (wr.heap.size + 1 + 1) 5 (some ⟨wr.heap.size + 1, 0, none⟩) 1 [.int .i64 x.id, .int .i64 x.set, .slice t1 x.chunks.length t2, .bool x.held, .string ⟨#[]⟩] := by
        have := rd_cells (wr.alloc (.cells #[.int .i64 x.id, .int .i64 x.set, .slice t1 x.chunks.length t2, .bool x.held, .string ⟨#[]⟩] 38)) [.int .i64 x.id, .int .i64 x.set, .slice t1 x.chunks.length t2, .bool x.held, .string ⟨#[]⟩] 38 (size := 5) (n := 1) rfl
        simpa using this
      clear had hx htt e1
      go_wp2_with (at_builtin; refine wpList_append_rd _ rfl (.tmp 50) (.tmp 52) 24 rfl w5.heap.size 38 k0 (.agg #[.int .i64 0, .int .i64 0, .slice none 0 0, .bool false, .string (strOf [])]) 5 64 Try.underlying24 hki kz0 kz1 kz2 rfl (by decide) _ j _ rfl ((HG.out.row.alloc _).alloc _) (wr.heap.size + 1 + 1) (some ⟨wr.heap.size + 1, 0, none⟩) 1 1 [.int .i64 x.id, .int .i64 x.set, .slice t1 x.chunks.length t2, .bool x.held, .string ⟨#[]⟩] rfl hr6 (by intro e he; simp at he; rcases he with rfl | rfl | rfl | rfl | rfl <;> rfl) (by unfold maxLen; omega) (by omega) (by simp; omega) ?_)
      intro v8 w8 o8 g8
      obtain ⟨A8, q8, rfl, hA8, hq8⟩ := slice_of_own o8
      have out8 := blk_kept ((HG.out.out.alloc (.cells #[.int .i64 x.id, .int .i64 x.set, .slice t1 x.chunks.length t2, .bool x.held, .string ⟨#[]⟩] 38)).alloc (.cells #[.int .i64 x.id, .int .i64 x.set, .slice t1 x.chunks.length t2, .bool x.held, .string ⟨#[]⟩] 38)) g8 (blk_apart HG.out.out HG.out.row (by decide))
      have z8 := out8.frozen 6
      have y8 : w8.cell? ⟨w5.heap.size, 6, none⟩ = some (.slice A3 j q3) := out8.cell 6
      have STEP := Lib.hid (HG.out.step (by rw [HR5.out.snaps.1, HR5.out.snaps.2.1]) HX.out HT.out rfl o8 g8)
      clear o8 g8 out8
      go_wp2
      go_roundw
      case rel => exact ⟨j + 1, _, by omega, by go_num, STEP.out⟩
      case measure => simp [intOf]; omega
    · obtain rfl : j = q.n3 := by omega
      have hrb := HG.out.rdt (s2 := bareS2 s') HR5.out (fun _ => rfl) rfl rfl rfl
      have HRB := Lib.hid hrb
      have hko := HG.out.out
      have HKO := Lib.hid hko
      have hbwr := hbw5.trans (hb.mono hbw5.size)
      clear hrb hko
      by_cases hN0 : N = 0
      · have qn : ((N : Int) != 0) = false := by rw [hN0]; rfl
        have HBM := Lib.hid (HNB.out hN0)
        obtain ⟨qo, hqo⟩ : ∃ b, ((O : Int) == 0) = b := ⟨_, rfl⟩
        clear hN0
        cases qo
        all_goals
          go_wp2_with fail
          refine (fresh_p wr).mono ?_
          rintro e w6 ⟨p6, rfl, hr6, hb6⟩
          unfold stagg stblk St.fresh
          go_wp2_with fail
          refine (fresh_p w6).mono ?_
          rintro e w7 ⟨p7, rfl, hr7, hb7⟩
          go_wp2_with fail
          refine (may_p St.fresh p7 2 w7 hr7 tok_fresh small_fresh (by unfold I64; decide)).mono ?_
          rintro e w9 ⟨rfl, hb9⟩
          rw [fresh_may2]
          have hb69 := (hb6.trans (hb7.mono hb6.size)).trans (hb9.mono (Nat.le_trans hb6.size hb7.size))
          obtain ⟨c0, c1, c2, c3, c4, c5, c6⟩ := stblk_cells (s := bareS2 s') (p := ⟨q.a1, q.n1, q.c1, q.a2, q.n2, q.c2, A3, q.n3, q3, q.S⟩) (HKO.out.below hb69 hlo)
          have HR9 := Lib.hid ((HRB.out.below hb69).more hb69.size)
          simp only [bareS2] at c0 c1 c2 c3
          simp only [] at c4 c5 c6
          go_wp2_with fail
          refine (may_p (bareS2 s') ⟨q.a1, q.n1, q.c1, q.a2, q.n2, q.c2, A3, q.n3, q3, q.S⟩ 2 w9 HR9.out (bare2_tok HTK.out) (bare2_small HSM.out) (by unfold I64; decide)).mono ?_
          rintro e w10 ⟨rfl, hb10⟩
          rw [HBM.out]
          go_wp2
          go_ret
          exact ⟨rfl, hbwr.trans ((hb69.trans (hb10.mono hb69.size)).mono hbwr.size)⟩
      · have qn : ((N : Int) != 0) = true := by rw [bne_iff_ne]; omega
        have qo : ((O : Int) == 0) = false := by rw [beq_eq_false_iff_ne]; intro e; exact hN0 (HON.out (by omega))
        clear hN0
        go_wp2_with fail
        refine (fresh_p wr).mono ?_
        rintro e w6 ⟨p6, rfl, hr6, hb6⟩
        unfold stagg stblk St.fresh
        go_wp2_with fail
        refine (fresh_p w6).mono ?_
        rintro e w7 ⟨p7, rfl, hr7, hb7⟩
        go_wp2_with fail
        refine (may_p St.fresh p7 2 w7 hr7 tok_fresh small_fresh (by unfold I64; decide)).mono ?_
        rintro e w9 ⟨rfl, hb9⟩
        rw [fresh_may2]
        have hb69 := (hb6.trans (hb7.mono hb6.size)).trans (hb9.mono (Nat.le_trans hb6.size hb7.size))
        go_wp2
        go_ret
        exact ⟨rfl, hbwr.trans (hb69.mono hbwr.size)⟩

theorem stgrowsl_any (s : Sta) (p : Pls) (k : Int) (u : World) (h : RdT u u.heap.size s p) (ht : Tok s) (hk : 0 ≤ k ∧ k ≤ 255) : Calls Try.prog 5 #[stagg s p, .int .u8 k] u fun e w' => e = .returned (.bool true) ∧ Below u.heap.size u w' := by
  have h2 := and_1' k hk.1 hk.2
  rcases (show k % 2 = 0 ∨ k % 2 = 1 by omega) with h' | h'
  · exact stgrows1 s p k u h ht (by rw [h2, h'])
  · exact stgrows2 s p k u h ht (by rw [h2, h'])
end Go.Proofs.Ytdkjdiamekfbdaa
