/-
  The walk of the law StateSame.
-/
import Derived.Test.YtdkjdiamekfbdaaStSameP
import Derived.Test.YtdkjdiamekfbdaaStPCopy
namespace Go.Proofs.Ytdkjdiamekfbdaa
open Go.RowKit
open Rf (Snp)
open St (Ses Opn Sta)

set_option maxHeartbeats 8000000 in
set_option maxRecDepth 100000 in
theorem stsamel_any (s t : Sta) (p pt : Pls) (u : World) (h : RdT u u.heap.size s p) (h' : RdT u u.heap.size t pt) (ht : Tok s) (ht' : Tok t) : Calls Try.prog 4 #[stagg s p, stagg t pt] u fun e w' => e = .returned (.bool true) ∧ Below u.heap.size u w' := by
  obtain ⟨w00, hw00, hk00, hb00, hs00⟩ := box_st u s p 26
  obtain ⟨w0, hw0, hk0, hb01, hs01⟩ := box_st w00 t pt 26
  have hsz0 : w00.heap.size = u.heap.size + 1 := by rw [hw00]; simp
  have hb0 : Below u.heap.size u w0 := hb00.trans (hb01.mono hb00.size)
  rw [hsz0] at hk0
  have hs0 : u.heap.size + 1 < w0.heap.size := by omega
  have hs0' : u.heap.size < w0.heap.size := by omega
  obtain ⟨s', hs'⟩ : ∃ s', lessT s = s' := ⟨_, rfl⟩
  obtain ⟨t', htt'⟩ : ∃ t', lessT t = t' := ⟨_, rfl⟩
  have HTA := Lib.hid (show Tok s' by rw [← hs']; exact lessT_tok ht)
  have HTB := Lib.hid (show Tok t' by rw [← htt']; exact lessT_tok ht')
  have HSA := Lib.hid (show Small s' by rw [← hs']; exact lessT_small s)
  have HSB := Lib.hid (show Small t' by rw [← htt']; exact lessT_small t)
  have HLN := Lib.hid (show s'.sess.length ≤ 20 ∧ s'.opens.length ≤ 20 ∧ s'.snaps.length ≤ 20 ∧ ∀ a ∈ s'.snaps, a.chunks.length ≤ 12 ∧ a.tag.length ≤ 40 by rw [← hs']; exact lessT_len s)
  have HLA := Lib.hid (fun (w : World) (hb : Below u.heap.size u w) => (by have := less_any s p u.heap.size w (h.below hb) hb.size; rw [hs'] at this; exact this : Calls Try.prog 10 #[stagg s p] w (LsBack w u.heap.size s')))
  have HLB := Lib.hid (fun (w : World) (hb : Below u.heap.size u w) => (by have := less_any t pt u.heap.size w (h'.below hb) hb.size; rw [htt'] at this; exact this : Calls Try.prog 10 #[stagg t pt] w (LsBack w u.heap.size t')))
  have HKA := Lib.hid (hk00.below hb01 hs00)
  have HKB := Lib.hid hk0
  have HW := Lib.hid (show w0 = (u.alloc (.cells (stblk s p) 26)).alloc (.cells (stblk t pt) 26) by rw [hw0, hw00])
  clear h h' ht ht' hs' htt' hk0 hk00 hw0 hw00 hb00 hb01 hs00 hs01 hsz0
  unfold stagg stblk
  go_enter Try.func4, Try.ntmps4
  go_upto_region 1 with fail
  rw [show (u.alloc (.cells #[.int .i64 s.version, .int .i64 s.next, .int .i64 s.keep, .int .i64 s.quota, .slice p.a1 p.n1 p.c1, .slice p.a2 p.n2 p.c2, .slice p.a3 p.n3 p.c3] 26)).alloc (.cells #[.int .i64 t.version, .int .i64 t.next, .int .i64 t.keep, .int .i64 t.quota, .slice pt.a1 pt.n1 pt.c1, .slice pt.a2 pt.n2 pt.c2, .slice pt.a3 pt.n3 pt.c3] 26) = w0 from HW.out.symm]
  go_wp2_with fail
  refine (stshown_any _).mono ?_
  rintro e w1 ⟨rfl, hb1⟩
  have hbw1 : Below u.heap.size u w1 := hb0.trans (hb1.mono hb0.size)
  have hgl : u.heap.size < w1.heap.size := Nat.lt_of_lt_of_le hs0' hb1.size
  have hgl1 : u.heap.size + 1 < w1.heap.size := Nat.lt_of_lt_of_le hs0 hb1.size
  replace HKA := Lib.hid (HKA.out.below hb1 hs0')
  replace HKB := Lib.hid (HKB.out.below hb1 hs0)
  obtain ⟨c0, c1, c2, c3, c4, c5, c6⟩ := stblk_cells HKA.out
  go_wp2_with fail
  refine (HLA.out w1 hbw1).mono ?_
  rintro e w2 ⟨q, rfl, hlt, hb2⟩
  have hk2 := HKA.out.below hb2 hgl
  replace HKB := Lib.hid (HKB.out.below hb2 hgl1)
  obtain ⟨d0, d1, d2, d3, d4, d5, d6⟩ := stblk_cells hk2
  have z0 := hk2.frozen 0
  have z1 := hk2.frozen 1
  have z2 := hk2.frozen 2
  have z3 := hk2.frozen 3
  have z4 := hk2.frozen 4
  have z5 := hk2.frozen 5
  have z6 := hk2.frozen 6
  have hbw2 : Below u.heap.size u w2 := hbw1.trans (hb2.mono hbw1.size)
  obtain ⟨hk3, hg3⟩ := stput_blk (s' := s') (q' := q) hk2
  have hlt3 := hlt.grown hg3 (Nat.le_refl _) hgl hbw2.size
  replace HKB := Lib.hid (blk_kept HKB.out hg3 (by simp))
  obtain ⟨w3, hw3⟩ : ∃ w3, w3 = stput w2 u.heap.size s' q := ⟨_, rfl⟩
  rw [← hw3] at hk3 hg3 hlt3 HKB
  have hbw3 : Below u.heap.size u w3 := hbw2.grown hg3 hbw2.size (fun k hk => by injection hk with hk; omega)
  have hl3 := hk3.lt
  have HLT := Lib.hid hlt3
  replace HKA := Lib.hid hk3
  have HW3 := Lib.hid hw3
  clear hlt hlt3 hk2 hk3 hg3 hw3 c0 c1 c2 c3 c4 c5 c6
  unfold stagg stblk
  go_upto_region 3 with fail
  rw [show ((((((w2.setCell ⟨u.heap.size, 0, none⟩ (.int .i64 s'.version)).setCell ⟨u.heap.size, 1, none⟩ (.int .i64 s'.next)).setCell ⟨u.heap.size, 2, none⟩ (.int .i64 s'.keep)).setCell ⟨u.heap.size, 3, none⟩ (.int .i64 s'.quota)).setCell ⟨u.heap.size, 4, none⟩ (.slice q.a1 q.n1 q.c1)).setCell ⟨u.heap.size, 5, none⟩ (.slice q.a2 q.n2 q.c2)).setCell ⟨u.heap.size, 6, none⟩ (.slice q.a3 q.n3 q.c3) = w3 from HW3.out.symm]
  clear d0 d1 d2 d3 d4 d5 d6 z0 z1 z2 z3 z4 z5 z6
  obtain ⟨c0, c1, c2, c3, c4, c5, c6⟩ := stblk_cells HKB.out
  have hl3b := HKB.out.lt
  go_wp2_with fail
  refine (HLB.out w3 hbw3).mono ?_
  rintro e w4 ⟨r, rfl, hltb, hb4⟩
  have hk4 := HKB.out.below hb4 hl3b
  replace HKA := Lib.hid (HKA.out.below hb4 hl3)
  have hlt4 := HLT.out.below hb4 hbw3.size
  obtain ⟨d0, d1, d2, d3, d4, d5, d6⟩ := stblk_cells hk4
  have z0 := hk4.frozen 0
  have z1 := hk4.frozen 1
  have z2 := hk4.frozen 2
  have z3 := hk4.frozen 3
  have z4 := hk4.frozen 4
  have z5 := hk4.frozen 5
  have z6 := hk4.frozen 6
  have hbw4 : Below u.heap.size u w4 := hbw3.trans (hb4.mono hbw3.size)
  obtain ⟨hk5, hg5⟩ := stput_blk (s' := t') (q' := r) hk4
  have hltb5 := hltb.grown hg5 (by omega) hl3b hbw4.size
  have hlt5 := hlt4.grown hg5 (by omega) hgl1 hbw4.size
  replace HKA := Lib.hid (blk_kept HKA.out hg5 (by simp))
  obtain ⟨w5, hw5⟩ : ∃ w5, w5 = stput w4 (u.heap.size + 1) t' r := ⟨_, rfl⟩
  rw [← hw5] at hk5 hg5 hltb5 hlt5 HKA
  have hbw5 : Below u.heap.size u w5 := hbw4.grown hg5 hbw4.size (fun k hk => by injection hk with hk; omega)
  have hlA := HKA.out.lt
  have hlB := hk5.lt
  have HRA := Lib.hid (hlt5.rdt hbw5.size)
  have HRB := Lib.hid (hltb5.rdt hbw5.size)
  replace HKB := Lib.hid hk5
  have HW5 := Lib.hid hw5
  clear hltb hltb5 hlt4 hlt5 hk4 hk5 hg5 hw5 c0 c1 c2 c3 c4 c5 c6
  unfold stagg stblk
  go_upto_region 4 with fail
  rw [show ((((((w4.setCell ⟨u.heap.size + 1, 0, none⟩ (.int .i64 t'.version)).setCell ⟨u.heap.size + 1, 1, none⟩ (.int .i64 t'.next)).setCell ⟨u.heap.size + 1, 2, none⟩ (.int .i64 t'.keep)).setCell ⟨u.heap.size + 1, 3, none⟩ (.int .i64 t'.quota)).setCell ⟨u.heap.size + 1, 4, none⟩ (.slice r.a1 r.n1 r.c1)).setCell ⟨u.heap.size + 1, 5, none⟩ (.slice r.a2 r.n2 r.c2)).setCell ⟨u.heap.size + 1, 6, none⟩ (.slice r.a3 r.n3 r.c3) = w5 from HW5.out.symm]
  clear d0 d1 d2 d3 d4 d5 d6 z0 z1 z2 z3 z4 z5 z6
  obtain ⟨c0, c1, c2, c3, c4, c5, c6⟩ := stblk_cells HKA.out
  obtain ⟨lo, hlo⟩ : ∃ lo, lo = w5.heap.size := ⟨_, rfl⟩
  have hlA5 : u.heap.size < lo := by rw [hlo]; exact hlA
  have HRL := Lib.hid (show RdT w5 lo s' q by rw [hlo]; exact HRA.out)
  go_wp2_with fail
  refine (copy_p s' q w5 HRA.out HTA.out HSA.out).mono ?_
  rintro e w6 ⟨qc, rfl, hoc, hb6⟩
  rw [← hlo] at hoc
  have hbw6 := hbw5.trans (hb6.mono hbw5.size)
  have hll6 : lo ≤ w6.heap.size := by rw [hlo]; exact hb6.size
  have hB6 : Below lo w5 w6 := by rw [hlo]; exact hb6
  obtain ⟨w7, hw7⟩ : ∃ w7 : World, w7 = w6.alloc (.cells (stblk s' qc) 26) := ⟨_, rfl⟩
  have hb67 : Below w6.heap.size w6 w7 := by rw [hw7]; exact (Below.refl _ _).alloc (Nat.le_refl _) _
  have hb57 : Below w5.heap.size w5 w7 := hb6.trans (hb67.mono hb6.size)
  have HKC := Lib.hid (show Blk w7 w6.heap.size 26 (stblk s' qc) by rw [hw7]; exact Blk.new _ _ _)
  have hl7 : w6.heap.size < w7.heap.size := by rw [hw7]; simp
  have HOC := Lib.hid hoc
  have hbw7 := hbw6.trans (hb67.mono hbw6.size)
  replace HKA := Lib.hid (HKA.out.below hb57 hlA)
  replace HKB := Lib.hid (HKB.out.below hb57 hlB)
  replace HRA := Lib.hid ((HRA.out.below hb57).more hb57.size)
  replace HRB := Lib.hid ((HRB.out.below hb57).more hb57.size)
  replace hlA := HKA.out.lt
  replace hlB := HKB.out.lt
  have HW7 := Lib.hid hw7
  obtain ⟨DD, hDD⟩ : ∃ DD, decide (s' = t') = DD := ⟨_, rfl⟩
  have HDD := Lib.hid hDD
  clear hoc hw7 hDD c0 c1 c2 c3 c4 c5 c6
  unfold stagg stblk
  go_upto_region 5 with fail
  rw [show w6.alloc (.cells #[.int .i64 s'.version, .int .i64 s'.next, .int .i64 s'.keep, .int .i64 s'.quota, .slice qc.a1 qc.n1 qc.c1, .slice qc.a2 qc.n2 qc.c2, .slice qc.a3 qc.n3 qc.c3] 26) = w7 from HW7.out.symm]
  refine wp_region_grew (n := 105) (Say [(21, isv (.agg #[.int .i64 s'.version, .int .i64 s'.next, .int .i64 s'.keep, .int .i64 s'.quota, .slice q.a1 q.n1 q.c1, .slice q.a2 q.n2 q.c2, .slice q.a3 q.n3 q.c3])), (22, isv (.agg #[.int .i64 t'.version, .int .i64 t'.next, .int .i64 t'.keep, .int .i64 t'.quota, .slice r.a1 r.n1 r.c1, .slice r.a2 r.n2 r.c2, .slice r.a3 r.n3 r.c3])), (23, isv (.bool DD)), (24, isv (.agg #[.int .i64 s'.version, .int .i64 s'.next, .int .i64 s'.keep, .int .i64 s'.quota, .slice q.a1 q.n1 q.c1, .slice q.a2 q.n2 q.c2, .slice q.a3 q.n3 q.c3])), (25, isv (.agg #[.int .i64 t'.version, .int .i64 t'.next, .int .i64 t'.keep, .int .i64 t'.quota, .slice r.a1 r.n1 r.c1, .slice r.a2 r.n2 r.c2, .slice r.a3 r.n3 r.c3])), (26, isv (.bool DD)), (27, isv (.bool true)), (7, isv (.bool true))]) (by kernel_rfl) (by kernel_rfl) rfl ⟨?_, ?_, ?_, ?_, ?_, ?_, ?_, ?_, trivial⟩ ?_
  · refine owed_val _ rfl rfl (fun _ => rfl) fun fr w hC hK => ?_
    have k2 : slot fr 2 = .pointer (some ⟨u.heap.size, 0, none⟩) := known_out hK 2 (by kernel_rfl)
    clear hK
    unfold slot at k2
    have x0 := (HKA.out.below hC hlA).cell 0
    have x1 := (HKA.out.below hC hlA).cell 1
    have x2 := (HKA.out.below hC hlA).cell 2
    have x3 := (HKA.out.below hC hlA).cell 3
    have x4 := (HKA.out.below hC hlA).cell 4
    have x5 := (HKA.out.below hC hlA).cell 5
    have x6 := (HKA.out.below hC hlA).cell 6
    simp [stblk] at x0 x1 x2 x3 x4 x5 x6
    go_simp
  · refine owed_val _ rfl rfl (fun _ => rfl) fun fr w hC hK => ?_
    have k3 : slot fr 3 = .pointer (some ⟨u.heap.size + 1, 0, none⟩) := known_out hK 3 (by kernel_rfl)
    clear hK
    unfold slot at k3
    have x0 := (HKB.out.below hC hlB).cell 0
    have x1 := (HKB.out.below hC hlB).cell 1
    have x2 := (HKB.out.below hC hlB).cell 2
    have x3 := (HKB.out.below hC hlB).cell 3
    have x4 := (HKB.out.below hC hlB).cell 4
    have x5 := (HKB.out.below hC hlB).cell 5
    have x6 := (HKB.out.below hC hlB).cell 6
    simp [stblk] at x0 x1 x2 x3 x4 x5 x6
    go_simp
  · refine owed_plain rfl rfl fun fr w hC hK K hk => ?_
    have k21 : slot fr 21 = .agg #[.int .i64 s'.version, .int .i64 s'.next, .int .i64 s'.keep, .int .i64 s'.quota, .slice q.a1 q.n1 q.c1, .slice q.a2 q.n2 q.c2, .slice q.a3 q.n3 q.c3] := known_in hK 21 (by kernel_rfl)
    have k22 : slot fr 22 = .agg #[.int .i64 t'.version, .int .i64 t'.next, .int .i64 t'.keep, .int .i64 t'.quota, .slice r.a1 r.n1 r.c1, .slice r.a2 r.n2 r.c2, .slice r.a3 r.n3 r.c3] := known_in hK 22 (by kernel_rfl)
    clear hK
    unfold slot at k21 k22
    go_simp
    refine (same_p s' t' q r w ((HRA.out.below hC).more (Below.size hC)) ((HRB.out.below hC).more (Below.size hC)) HTA.out HTB.out HSA.out HSB.out).mono ?_
    rintro e w' ⟨rfl, hb⟩
    exact hk _ _ hb (congrArg Value.bool HDD.out)
  · refine owed_val _ rfl rfl (fun _ => rfl) fun fr w hC hK => ?_
    have k2 : slot fr 2 = .pointer (some ⟨u.heap.size, 0, none⟩) := known_out hK 2 (by kernel_rfl)
    clear hK
    unfold slot at k2
    have x0 := (HKA.out.below hC hlA).cell 0
    have x1 := (HKA.out.below hC hlA).cell 1
    have x2 := (HKA.out.below hC hlA).cell 2
    have x3 := (HKA.out.below hC hlA).cell 3
    have x4 := (HKA.out.below hC hlA).cell 4
    have x5 := (HKA.out.below hC hlA).cell 5
    have x6 := (HKA.out.below hC hlA).cell 6
    simp [stblk] at x0 x1 x2 x3 x4 x5 x6
    go_simp
  · refine owed_val _ rfl rfl (fun _ => rfl) fun fr w hC hK => ?_
    have k3 : slot fr 3 = .pointer (some ⟨u.heap.size + 1, 0, none⟩) := known_out hK 3 (by kernel_rfl)
    clear hK
    unfold slot at k3
    have x0 := (HKB.out.below hC hlB).cell 0
    have x1 := (HKB.out.below hC hlB).cell 1
    have x2 := (HKB.out.below hC hlB).cell 2
    have x3 := (HKB.out.below hC hlB).cell 3
    have x4 := (HKB.out.below hC hlB).cell 4
    have x5 := (HKB.out.below hC hlB).cell 5
    have x6 := (HKB.out.below hC hlB).cell 6
    simp [stblk] at x0 x1 x2 x3 x4 x5 x6
    go_simp
  · refine owed_plain rfl rfl fun fr w hC hK K hk => ?_
    have k24 : slot fr 24 = .agg #[.int .i64 s'.version, .int .i64 s'.next, .int .i64 s'.keep, .int .i64 s'.quota, .slice q.a1 q.n1 q.c1, .slice q.a2 q.n2 q.c2, .slice q.a3 q.n3 q.c3] := known_in hK 24 (by kernel_rfl)
    have k25 : slot fr 25 = .agg #[.int .i64 t'.version, .int .i64 t'.next, .int .i64 t'.keep, .int .i64 t'.quota, .slice r.a1 r.n1 r.c1, .slice r.a2 r.n2 r.c2, .slice r.a3 r.n3 r.c3] := known_in hK 25 (by kernel_rfl)
    clear hK
    unfold slot at k24 k25
    go_simp
    refine (same7_any s' t' q r w ((HRA.out.below hC).more (Below.size hC)) ((HRB.out.below hC).more (Below.size hC)) HTA.out HTB.out).mono ?_
    rintro e w' ⟨rfl, hb⟩
    exact hk _ _ hb (congrArg Value.bool HDD.out)
  · refine owed_val _ rfl rfl (fun _ => rfl) fun fr w hC hK => ?_
    have k23 : slot fr 23 = .bool DD := known_in hK 23 (by kernel_rfl)
    have k26 : slot fr 26 = .bool DD := known_in hK 26 (by kernel_rfl)
    clear hK
    unfold slot at k23 k26
    go_simp
  · exact owed_move rfl rfl (.inr rfl) fun fr w _ hK => known_in hK 27 (by kernel_rfl)
  intro vs w8 hg8 hgood
  have h7 : vs 7 = .bool true := hgood.2.2.2.2.2.2.2.1
  clear hgood
  simp only [putsOf]
  rw [h7]
  go_simp
  have hb78 : Below w7.heap.size w7 w8 := hg8
  have hbw8 := hbw7.trans (hb78.mono hbw7.size)
  replace HKA := Lib.hid (HKA.out.below hb78 hlA)
  replace HRA := Lib.hid ((HRA.out.below hb78).more hb78.size)
  replace hlA := HKA.out.lt
  replace HKC := Lib.hid (HKC.out.below hb78 hl7)
  have hl8 : w6.heap.size < w8.heap.size := HKC.out.lt
  have hb68 : Below w6.heap.size w6 w8 := hb67.trans (hb78.mono (Nat.le_of_lt hl7))
  have hoc8 : OwnT w8 lo s' qc := by
    have hO := HOC.out
    exact ⟨own_below hO.sess hb68, own_below hO.opens hb68, own_below hO.snaps hb68, hO.l1, hO.l2, hO.l3, hO.l4, fun k f t hf ht => own_below (hO.chunks k f t hf ht) hb68⟩
  have HRC := Lib.hid hoc8.rdt
  obtain ⟨c0, c1, c2, c3, c4, c5, c6⟩ := stblk_cells HKA.out
  obtain ⟨e0, e1, e2, e3, e4, e5, e6⟩ := stblk_cells HKC.out
  clear hoc8
  go_wp2_with fail
  refine (same7_any s' s' qc q w8 HRC.out HRA.out HTA.out HTA.out).mono ?_
  rintro e w9 ⟨rfl, hb9⟩
  rw [decide_eq_true rfl]
  replace HKA := Lib.hid (HKA.out.below hb9 hlA)
  replace HRA := Lib.hid ((HRA.out.below hb9).more hb9.size)
  replace hlA := HKA.out.lt
  replace HKC := Lib.hid (HKC.out.below hb9 hl8)
  have hb69 := hb68.trans (hb9.mono hb68.size)
  have hbw9 := hbw8.trans (hb9.mono hbw8.size)
  clear c0 c1 c2 c3 c4 c5 c6 e0 e1 e2 e3 e4 e5 e6
  obtain ⟨c0, c1, c2, c3, c4, c5, c6⟩ := stblk_cells HKA.out
  go_wp2_with fail
  refine (same_p s' s' q q w9 HRA.out HRA.out HTA.out HTA.out HSA.out HSA.out).mono ?_
  rintro e w10 ⟨rfl, hb10⟩
  rw [decide_eq_true rfl]
  have hl9 := HKC.out.lt
  replace HKA := Lib.hid (HKA.out.below hb10 hlA)
  replace HRA := Lib.hid ((HRA.out.below hb10).more hb10.size)
  replace hlA := HKA.out.lt
  replace HKC := Lib.hid (HKC.out.below hb10 hl9)
  have hb610 := hb69.trans (hb10.mono hb69.size)
  have hbw10 := hbw9.trans (hb10.mono hbw9.size)
  clear c0 c1 c2 c3 c4 c5 c6
  obtain ⟨c0, c1, c2, c3, c4, c5, c6⟩ := stblk_cells HKA.out
  have hl10 := HKC.out.lt
  go_wp2_with fail
  refine (copy7_any s' q w10 HRA.out HTA.out HSA.out).mono ?_
  rintro e w11 ⟨qk, rfl, hok, hb11⟩
  obtain ⟨w12, hw12⟩ : ∃ w12 : World, w12 = w11.alloc (.cells (stblk s' qk) 26) := ⟨_, rfl⟩
  have hb1112 : Below w11.heap.size w11 w12 := by rw [hw12]; exact (Below.refl _ _).alloc (Nat.le_refl _) _
  have hb1012 : Below w10.heap.size w10 w12 := hb11.trans (hb1112.mono hb11.size)
  have HKK := Lib.hid (show Blk w12 w11.heap.size 26 (stblk s' qk) by rw [hw12]; exact Blk.new _ _ _)
  have hok12 : OwnT w12 w10.heap.size s' qk := ⟨own_below hok.sess hb1112, own_below hok.opens hb1112, own_below hok.snaps hb1112, hok.l1, hok.l2, hok.l3, hok.l4, fun k f t hf ht => own_below (hok.chunks k f t hf ht) hb1112⟩
  have HOK := Lib.hid hok12
  replace HKA := Lib.hid (HKA.out.below hb1012 hlA)
  replace HKC := Lib.hid (HKC.out.below hb1012 hl10)
  have hb612 := hb610.trans (hb1012.mono hb610.size)
  have hbw12 := hbw10.trans (hb1012.mono hbw10.size)
  have hoc12 : OwnT w12 lo s' qc := by
    have hO := HOC.out
    exact ⟨own_below hO.sess hb612, own_below hO.opens hb612, own_below hO.snaps hb612, hO.l1, hO.l2, hO.l3, hO.l4, fun k f t hf ht => own_below (hO.chunks k f t hf ht) hb612⟩
  have HRLX := Lib.hid (show RdT w12 lo s' q from HRL.out.below (hB6.trans (hb612.mono hll6)))
  have HW12 := Lib.hid hw12
  obtain ⟨hi, hhi⟩ : ∃ hi, hi = w6.heap.size := ⟨_, rfl⟩
  rw [← hhi] at HKC
  have HOC12 := Lib.hid hoc12
  have HRC12 := Lib.hid hoc12.rdt
  have hk10 : hi < w10.heap.size := by rw [hhi]; exact hl10
  have hk11 : w10.heap.size ≤ w11.heap.size := hb11.size
  clear hok hok12 hoc12 hw12 c0 c1 c2 c3 c4 c5 c6
  unfold stagg stblk
  go_upto_region 8 with fail
  rw [show w11.alloc (.cells #[.int .i64 s'.version, .int .i64 s'.next, .int .i64 s'.keep, .int .i64 s'.quota, .slice qk.a1 qk.n1 qk.c1, .slice qk.a2 qk.n2 qk.c2, .slice qk.a3 qk.n3 qk.c3] 26) = w12 from HW12.out.symm]
  have hOsz : w6.heap.size ≤ w12.heap.size := hb612.size
  have hlolow : ∀ w, Chg lo hi w12 w → Below u.heap.size u w := fun w hc => hbw12.trans (hc.below.mono (Nat.le_of_lt hlA5))
  have HLL := Lib.hid hlolow
  have hchi : Blk w12 hi 26 (stblk s' qc) := HKC.out
  have wh3 : ∀ ad, qc.a3 = some ad → lo ≤ ad.block ∧ ad.block < hi ∧ ∀ k, w12.frozen? (ad.add k) = false := by
    intro ad hd
    have h1 := HOC.out.snaps
    have h2 := HOC12.out.snaps
    rw [hd] at h1 h2
    exact ⟨(own_where h1).1, by rw [hhi]; exact (own_where h1).2.1, (own_where h2).2.2⟩
  have wh1 : ∀ ad, qc.a1 = some ad → lo ≤ ad.block ∧ ad.block < hi ∧ ∀ k, w12.frozen? (ad.add k) = false := by
    intro ad hd
    have h1 := HOC.out.sess
    have h2 := HOC12.out.sess
    rw [hd] at h1 h2
    exact ⟨(own_where h1).1, by rw [hhi]; exact (own_where h1).2.1, (own_where h2).2.2⟩
  have wh2 : ∀ ad, qc.a2 = some ad → lo ≤ ad.block ∧ ad.block < hi ∧ ∀ k, w12.frozen? (ad.add k) = false := by
    intro ad hd
    have h1 := HOC.out.opens
    have h2 := HOC12.out.opens
    rw [hd] at h1 h2
    exact ⟨(own_where h1).1, by rw [hhi]; exact (own_where h1).2.1, (own_where h2).2.2⟩
  have whc : ∀ (k : Nat) (f : Snp) (t : Option Addr × Nat), s'.snaps[k]? = some f → qc.S[k]? = some t → ∀ ad, t.1 = some ad → lo ≤ ad.block ∧ ad.block < hi ∧ ∀ k, w12.frozen? (ad.add k) = false := by
    intro k f t hf ht ad hd
    have h1 := HOC.out.chunks k f t hf ht
    have h2 := HOC12.out.chunks k f t hf ht
    rw [hd] at h1 h2
    exact ⟨(own_where h1).1, by rw [hhi]; exact (own_where h1).2.1, (own_where h2).2.2⟩
  have WH1 := Lib.hid wh1
  have WH2 := Lib.hid wh2
  have WH3 := Lib.hid wh3
  have WHC := Lib.hid whc
  have HCHI := Lib.hid hchi
  clear hlolow hchi wh1 wh2 wh3 whc
  rw [show w6.heap.size = hi from hhi.symm]
  have hhi12 : hi ≤ w12.heap.size := by omega
  have hhi10 : hi < w10.heap.size := by omega
  clear hhi hlo
  have n1b : qc.n1 ≤ 20 := by rw [← HRC12.out.sess.1]; exact HLN.out.1
  have n2b : qc.n2 ≤ 20 := by rw [← HRC12.out.opens.1]; exact HLN.out.2.1
  have n3b : qc.n3 ≤ 20 := by rw [← HRC12.out.snaps.1]; exact HLN.out.2.2.1
  go_wp2
  go_loopw [10] (fun i wr => ∃ j : Nat, j ≤ qc.n3 ∧ i = .int .i64 (j : Int) ∧ Chg lo hi w12 wr) (fun i _ => qc.n3 - (intOf i).toNat)
  case atStart => exact ⟨0, Nat.zero_le _, rfl, Chg.refl _ _ _⟩
  case round =>
    obtain ⟨j, hj, rfl, hch⟩ := hrel
    have HCH := Lib.hid hch
    have y6 : wr.cell? ⟨hi, 6, none⟩ = some (.slice qc.a3 qc.n3 qc.c3) := (hch.blk HCHI.out (.inr (Nat.le_refl _))).cell 6
    clear hch
    by_cases hlt : j < qc.n3
    · obtain ⟨ad, x, ⟨t1, t2⟩, had, hab, hx, htt, g0, g1, g2, g3, g4, e1, e2, e3⟩ := rds_get HRC12.out.snaps hlt
      have hwh := WH3.out ad had
      have hxl : x.chunks.length ≤ 12 := (HLN.out.2.2.2 x (List.mem_of_getElem? hx)).1
      have hwc := WHC.out j x (t1, t2) hx htt
      have HAD := Lib.hid had
      have G0 := Lib.hid g0
      have G2 := Lib.hid g2
      have E1 := Lib.hid e1
      have WHA := Lib.hid hwh
      have WHX := Lib.hid hwc
      have hji : (j : Int) < (qc.n3 : Int) := by omega
      have h2 : wr.cell? ⟨(ad.add (j * 5)).block, (ad.add (j * 5)).off + 2, none⟩ = some (.slice t1 x.chunks.length t2) := HCH.out.keep G2.out (fun z => by simp)
      have Y6 := Lib.hid y6
      rw [had] at y6
      simp only [] at e2 e3
      clear hx htt g0 g1 g2 g3 g4 e1 hwh hwc had
      go_wp2
      go_loopw [11] (fun i wr => ∃ k : Nat, k ≤ x.chunks.length ∧ i = .int .i64 (k : Int) ∧ Chg lo hi w12 wr) (fun i _ => x.chunks.length - (intOf i).toNat)
      case atStart => exact ⟨0, Nat.zero_le _, rfl, HCH.out⟩
      case round =>
        clear h2 y6
        obtain ⟨k, hk, rfl, hch⟩ := hrel
        have HCH2 := Lib.hid hch
        have h2 : wr.cell? ⟨(ad.add (j * 5)).block, (ad.add (j * 5)).off + 2, none⟩ = some (.slice t1 x.chunks.length t2) := hch.keep G2.out (fun z => by simp)
        have y6 : wr.cell? ⟨hi, 6, none⟩ = some (.slice qc.a3 qc.n3 qc.c3) := (hch.blk HCHI.out (.inr (Nat.le_refl _))).cell 6
        rw [HAD.out] at y6
        clear hch
        by_cases hlk : k < x.chunks.length
        · obtain ⟨ac, z, hac, hab2, hz, k0⟩ := E1.out.int hlk
          obtain ⟨m1, m2, m3⟩ := WHX.out ac hac
          obtain ⟨z', k1⟩ := HCH2.out.int k0
          have kf : wr.frozen? (ac.add k) = false := (HCH2.out.frozen _).trans (m3 k)
          have STEP := Lib.hid (HCH2.out.step k1 (by rw [add_block]; exact m1) (by rw [add_block]; exact m2) 77)
          rw [hac] at h2
          have hki : (k : Int) < (x.chunks.length : Int) := by omega
          clear hac m3 hz k0
          go_wp2
          go_roundw
          case rel => exact ⟨k + 1, by omega, by go_num, STEP.out⟩
          case measure => simp [intOf]; omega
        · obtain rfl : k = x.chunks.length := by omega
          obtain ⟨z', k1⟩ := HCH2.out.int G0.out
          have kf : wr.frozen? (ad.add (j * 5)) = false := (HCH2.out.frozen _).trans (WHA.out.2.2 _)
          have STEP := Lib.hid (HCH2.out.step k1 (by rw [add_block]; exact WHA.out.1) (by rw [add_block]; exact WHA.out.2.1) 99)
          go_wp2
          go_roundw
          case rel => exact ⟨j + 1, by omega, by go_num, STEP.out⟩
          case measure => simp [intOf]; omega
    · obtain rfl : j = qc.n3 := by omega
      have y4 : wr.cell? ⟨hi, 4, none⟩ = some (.slice qc.a1 qc.n1 qc.c1) := (HCH.out.blk HCHI.out (.inr (Nat.le_refl _))).cell 4
      go_wp2
      clear y4 y6
      go_loopw [12] (fun i wr => ∃ j : Nat, j ≤ qc.n1 ∧ i = .int .i64 (j : Int) ∧ Chg lo hi w12 wr) (fun i _ => qc.n1 - (intOf i).toNat)
      case atStart => exact ⟨0, Nat.zero_le _, rfl, HCH.out⟩
      case round =>
        clear HCH
        obtain ⟨j, hj, rfl, hch⟩ := hrel
        have HCH := Lib.hid hch
        have y4 : wr.cell? ⟨hi, 4, none⟩ = some (.slice qc.a1 qc.n1 qc.c1) := (hch.blk HCHI.out (.inr (Nat.le_refl _))).cell 4
        clear hch
        by_cases hlt : j < qc.n1
        · obtain ⟨ad, x, had, hab, hx, g0, g1, g2, g3⟩ := rse_get HRC12.out.sess hlt
          obtain ⟨m1, m2, m3⟩ := WH1.out ad had
          obtain ⟨z', k1⟩ := HCH.out.int g1
          have kf : wr.frozen? ⟨(ad.add (j * 4)).block, (ad.add (j * 4)).off + 1, none⟩ = false := (HCH.out.frozen _).trans (frz_spell (m3 (j * 4 + 1)) (by omega))
          have STEP := Lib.hid (HCH.out.step k1 (by show lo ≤ (ad.add (j * 4)).block; rw [add_block]; exact m1) (by show (ad.add (j * 4)).block < hi; rw [add_block]; exact m2) 55)
          rw [had] at y4
          have hji : (j : Int) < (qc.n1 : Int) := by omega
          clear had hx g0 g1 g2 g3 m3
          go_wp2
          go_roundw
          case rel => exact ⟨j + 1, by omega, by go_num, STEP.out⟩
          case measure => simp [intOf]; omega
        · obtain rfl : j = qc.n1 := by omega
          have y5 : wr.cell? ⟨hi, 5, none⟩ = some (.slice qc.a2 qc.n2 qc.c2) := (HCH.out.blk HCHI.out (.inr (Nat.le_refl _))).cell 5
          go_wp2
          clear y4 y5
          go_loopw [13] (fun i wr => ∃ j : Nat, j ≤ qc.n2 ∧ i = .int .i64 (j : Int) ∧ Chg lo hi w12 wr) (fun i _ => qc.n2 - (intOf i).toNat)
          case atStart => exact ⟨0, Nat.zero_le _, rfl, HCH.out⟩
          case round =>
            clear HCH
            obtain ⟨j, hj, rfl, hch⟩ := hrel
            have HCH := Lib.hid hch
            have y5 : wr.cell? ⟨hi, 5, none⟩ = some (.slice qc.a2 qc.n2 qc.c2) := (hch.blk HCHI.out (.inr (Nat.le_refl _))).cell 5
            clear hch
            by_cases hlt : j < qc.n2
            · obtain ⟨ad, x, had, hab, hx, g0, g1⟩ := rop_get HRC12.out.opens hlt
              obtain ⟨m1, m2, m3⟩ := WH2.out ad had
              obtain ⟨z', k1⟩ := HCH.out.int g1
              have kf : wr.frozen? ⟨(ad.add (j * 2)).block, (ad.add (j * 2)).off + 1, none⟩ = false := (HCH.out.frozen _).trans (frz_spell (m3 (j * 2 + 1)) (by omega))
              have STEP := Lib.hid (HCH.out.step k1 (by show lo ≤ (ad.add (j * 2)).block; rw [add_block]; exact m1) (by show (ad.add (j * 2)).block < hi; rw [add_block]; exact m2) 44)
              rw [had] at y5
              have hji : (j : Int) < (qc.n2 : Int) := by omega
              clear had hx g0 g1 m3
              go_wp2
              go_roundw
              case rel => exact ⟨j + 1, by omega, by go_num, STEP.out⟩
              case measure => simp [intOf]; omega
            · obtain rfl : j = qc.n2 := by omega
              have hc := HCH.out
              obtain ⟨a0, a1, a2, a3, a4, a5, a6⟩ := stblk_cells (hc.blk HKA.out (.inl hlA5))
              obtain ⟨b0, b1, b2, b3, b4, b5, b6⟩ := stblk_cells (hc.blk HKK.out (.inr (by omega)))
              have r1 : RdT wr wr.heap.size s' q := (HRLX.out.below hc.below).more (by rw [hc.size]; omega)
              have r2 : RdT wr wr.heap.size s' qk := (HOK.out.up fun g hg _ => hc.out g (.inr (by omega))).rdt
              have R1 := Lib.hid r1
              have R2 := Lib.hid r2
              have hbu := HLL.out wr hc
              clear hc r1 r2
              go_wp2_with fail
              refine (same7_any s' s' q qk wr R1.out R2.out HTA.out HTA.out).mono ?_
              rintro e w13 ⟨rfl, hb13⟩
              rw [decide_eq_true rfl]
              go_wp2
              go_ret
              exact ⟨rfl, hbu.trans (hb13.mono hbu.size)⟩
end Go.Proofs.Ytdkjdiamekfbdaa
