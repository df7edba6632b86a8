/-
  The walk of the law StateParts.
-/
import Derived.Test.YtdkjdiamekfbdaaStCut
import Derived.Test.YtdkjdiamekfbdaaStPartsT
namespace Go.Proofs.Ytdkjdiamekfbdaa
open Go.RowKit
open Rf (Snp)
open St (Ses Opn Sta mayS)
open Cm (inR)

set_option maxHeartbeats 8000000 in
set_option maxRecDepth 100000 in
theorem stpartsl_any (s : Sta) (p : Pls) (ver k : Int) (u : World) (h : RdT u u.heap.size s p) (ht : Tok s) (hver : 0 ≤ ver ∧ ver ≤ 255) (hk : 0 ≤ k ∧ k ≤ 255) : Calls Try.prog 8 #[stagg s p, .int .u8 ver, .int .u8 k] u fun e w' => e = .returned (.bool true) ∧ Below u.heap.size u w' := by
  obtain ⟨i0, hi1, iz0, iz1, iz2⟩ := info_parts sess_info
  obtain ⟨j0, hi2, jz0, jz1, jz2⟩ := info_parts open_info
  obtain ⟨k0, hi3, kz0, kz1, kz2⟩ := info_parts snap_info
  obtain ⟨w0, hw0, hk0, hb0, hs0⟩ := box_st u s p 26
  obtain ⟨s', hs'⟩ : ∃ s', lessT s = s' := ⟨_, rfl⟩
  have HTK := Lib.hid (show Tok s' by rw [← hs']; exact lessT_tok ht)
  have HSM := Lib.hid (show Small s' by rw [← hs']; exact lessT_small s)
  have HLN := Lib.hid (show s'.sess.length ≤ 20 ∧ s'.opens.length ≤ 20 ∧ s'.snaps.length ≤ 20 ∧ ∀ a ∈ s'.snaps, a.chunks.length ≤ 12 ∧ a.tag.length ≤ 40 by rw [← hs']; exact lessT_len s)
  have HLS := Lib.hid (fun (w : World) (hb : Below u.heap.size u w) => (by have := less_any s p u.heap.size w (h.below hb) hb.size; rw [hs'] at this; exact this : Calls Try.prog 10 #[stagg s p] w (LsBack w u.heap.size s')))
  have HK0 := Lib.hid hk0
  have HW := Lib.hid hw0
  clear h ht hs' hk0 hw0
  unfold stagg stblk
  go_enter Try.func8, Try.ntmps8
  go_upto_region 1 with fail
  rw [show u.alloc (.cells #[.int .i64 s.version, .int .i64 s.next, .int .i64 s.keep, .int .i64 s.quota, .slice p.a1 p.n1 p.c1, .slice p.a2 p.n2 p.c2, .slice p.a3 p.n3 p.c3] 26) = w0 from HW.out.symm]
  go_wp2_with fail
  refine (stshown_any _).mono ?_
  rintro e w1 ⟨rfl, hb1⟩
  have hbw1 : Below u.heap.size u w1 := hb0.trans (hb1.mono hb0.size)
  have hgl : u.heap.size < w1.heap.size := Nat.lt_of_lt_of_le hs0 hb1.size
  have hk1 := HK0.out.below hb1 hs0
  obtain ⟨c0, c1, c2, c3, c4, c5, c6⟩ := stblk_cells hk1
  have HK1 := Lib.hid hk1
  clear hk1
  go_wp2_with fail
  refine (HLS.out w1 hbw1).mono ?_
  rintro e w2 ⟨q, rfl, hlt, hb2⟩
  have hk2 := HK1.out.below hb2 hgl
  obtain ⟨d0, d1, d2, d3, d4, d5, d6⟩ := stblk_cells hk2
  have z0 := hk2.frozen 0
  have z1 := hk2.frozen 1
  have z2 := hk2.frozen 2
  have z3 := hk2.frozen 3
  have z4 := hk2.frozen 4
  have z5 := hk2.frozen 5
  have z6 := hk2.frozen 6
  have hbw2 : Below u.heap.size u w2 := hbw1.trans (hb2.mono hbw1.size)
  obtain ⟨hk3, hg3⟩ := stput_blk (s' := s') (q' := q) hk2
  have hlt3 := hlt.grown hg3 (Nat.le_refl _) hgl hbw2.size
  obtain ⟨w3, hw3⟩ : ∃ w3, w3 = stput w2 u.heap.size s' q := ⟨_, rfl⟩
  rw [← hw3] at hk3 hg3 hlt3
  have hbw3 : Below u.heap.size u w3 := hbw2.grown hg3 hbw2.size (fun k hk => by injection hk with hk; omega)
  have hl3 := hk3.lt
  have HRT := Lib.hid (hlt3.rdt hbw3.size)
  have HLT := Lib.hid hlt3
  have HK3 := Lib.hid hk3
  have HW3 := Lib.hid hw3
  clear hlt hlt3 hk2 hk3 hg3 hw3 c0 c1 c2 c3 c4 c5 c6
  unfold stagg stblk
  go_upto_region 3 with fail
  rw [show ((((((w2.setCell ⟨u.heap.size, 0, none⟩ (.int .i64 s'.version)).setCell ⟨u.heap.size, 1, none⟩ (.int .i64 s'.next)).setCell ⟨u.heap.size, 2, none⟩ (.int .i64 s'.keep)).setCell ⟨u.heap.size, 3, none⟩ (.int .i64 s'.quota)).setCell ⟨u.heap.size, 4, none⟩ (.slice q.a1 q.n1 q.c1)).setCell ⟨u.heap.size, 5, none⟩ (.slice q.a2 q.n2 q.c2)).setCell ⟨u.heap.size, 6, none⟩ (.slice q.a3 q.n3 q.c3) = w3 from HW3.out.symm]
  clear d0 d1 d2 d3 d4 d5 d6 z0 z1 z2 z3 z4 z5 z6
  go_upto_region 4 with fail
  obtain ⟨v, hv⟩ : ∃ v, 1 + ver % 3 = v := ⟨_, rfl⟩
  rw [hv]
  have hv1 : 1 ≤ v ∧ v ≤ 3 := by omega
  have hvi : I64 v := by unfold I64; omega
  have HVR := Lib.hid (show inR v 1 3 = true by unfold inR; rw [decide_eq_true hv1.1, decide_eq_true hv1.2]; rfl)
  clear hv
  obtain ⟨c0, c1, c2, c3, c4, c5, c6⟩ := stblk_cells HK3.out
  have n1b : q.n1 ≤ 20 := by rw [← HRT.out.sess.1]; exact HLN.out.1
  have n2b : q.n2 ≤ 20 := by rw [← HRT.out.opens.1]; exact HLN.out.2.1
  have n3b : q.n3 ≤ 20 := by rw [← HRT.out.snaps.1]; exact HLN.out.2.2.1
  obtain ⟨O, hO⟩ : ∃ O, mayS s' v = O := ⟨_, rfl⟩
  have HO := Lib.hid hO
  clear hO
  go_wp2_with fail
  refine (may_p s' q v w3 HRT.out HTK.out HSM.out hvi).mono ?_
  rintro e w5 ⟨rfl, hb5⟩
  rw [HO.out]
  have hbw5 := hbw3.trans (hb5.mono hbw3.size)
  by_cases hO0 : O = 0
  case neg =>
    have qo : ((O : Int) != 0) = true := by rw [bne_iff_ne]; omega
    go_wp2
    go_ret
    exact ⟨rfl, hbw5⟩
  subst hO0
  have hk5 := HK3.out.below hb5 hl3
  clear c0 c1 c2 c3 c4 c5 c6
  obtain ⟨c0, c1, c2, c3, c4, c5, c6⟩ := stblk_cells hk5
  have HK5 := Lib.hid hk5
  have HR5 := Lib.hid ((HRT.out.below hb5).more hb5.size)
  have hl5 : u.heap.size < w5.heap.size := Nat.lt_of_lt_of_le hl3 hb5.size
  obtain ⟨lo, hlo⟩ : ∃ lo, lo = w5.heap.size := ⟨_, rfl⟩
  have HLO := Lib.hid hlo
  obtain ⟨w6, hw6⟩ : ∃ w6 : World, w6 = w5.alloc (.cells #[.int .i64 s'.version, .int .i64 s'.next, .int .i64 s'.keep, .int .i64 s'.quota, .slice q.a1 q.n1 q.c1, .slice q.a2 q.n2 q.c2, .slice q.a3 q.n3 q.c3] 26) := ⟨_, rfl⟩
  obtain ⟨w7, hw7⟩ : ∃ w7 : World, w7 = w6.alloc (.cells #[.int .i64 s'.version, .int .i64 s'.next, .int .i64 s'.keep, .int .i64 s'.quota, .slice q.a1 q.n1 q.c1, .slice q.a2 q.n2 q.c2, .slice q.a3 q.n3 q.c3] 26) := ⟨_, rfl⟩
  obtain ⟨w8, hw8⟩ : ∃ w8 : World, w8 = w7.alloc (.cells #[.int .i64 s'.version, .int .i64 s'.next, .int .i64 s'.keep, .int .i64 s'.quota, .slice q.a1 q.n1 q.c1, .slice q.a2 q.n2 q.c2, .slice q.a3 q.n3 q.c3] 26) := ⟨_, rfl⟩
  obtain ⟨w9, hw9⟩ : ∃ w9 : World, w9 = w8.alloc (.cells #[.int .i64 s'.version, .int .i64 s'.next, .int .i64 s'.keep, .int .i64 s'.quota, .slice q.a1 q.n1 q.c1, .slice q.a2 q.n2 q.c2, .slice q.a3 q.n3 q.c3] 26) := ⟨_, rfl⟩
  have hs6 : w6.heap.size = lo + 1 := by rw [hw6, hlo]; simp
  have hs7 : w7.heap.size = lo + 2 := by rw [hw7]; simp [hs6]
  have hs8 : w8.heap.size = lo + 3 := by rw [hw8]; simp [hs7]
  have hs9 : w9.heap.size = lo + 4 := by rw [hw9]; simp [hs8]
  have hl0 : u.heap.size < lo := by rw [hlo]; exact hl5
  have hb6 : Below lo w5 w6 := by rw [hw6, hlo]; exact (Below.refl _ _).alloc (Nat.le_refl _) _
  have hb7 : Below lo w5 w7 := by rw [hw7]; exact hb6.alloc (by omega) _
  have hb8 : Below lo w5 w8 := by rw [hw8]; exact hb7.alloc (by omega) _
  have hb9 : Below lo w5 w9 := by rw [hw9]; exact hb8.alloc (by omega) _
  have hx6 : Blk w6 lo 26 #[.int .i64 s'.version, .int .i64 s'.next, .int .i64 s'.keep, .int .i64 s'.quota, .slice q.a1 q.n1 q.c1, .slice q.a2 q.n2 q.c2, .slice q.a3 q.n3 q.c3] := by rw [hw6, hlo]; exact Blk.new _ _ _
  have hy7 : Blk w7 (lo + 1) 26 #[.int .i64 s'.version, .int .i64 s'.next, .int .i64 s'.keep, .int .i64 s'.quota, .slice q.a1 q.n1 q.c1, .slice q.a2 q.n2 q.c2, .slice q.a3 q.n3 q.c3] := by rw [hw7, ← hs6]; exact Blk.new _ _ _
  have hz8 : Blk w8 (lo + 2) 26 #[.int .i64 s'.version, .int .i64 s'.next, .int .i64 s'.keep, .int .i64 s'.quota, .slice q.a1 q.n1 q.c1, .slice q.a2 q.n2 q.c2, .slice q.a3 q.n3 q.c3] := by rw [hw8, ← hs7]; exact Blk.new _ _ _
  have ht9 : Blk w9 (lo + 3) 26 #[.int .i64 s'.version, .int .i64 s'.next, .int .i64 s'.keep, .int .i64 s'.quota, .slice q.a1 q.n1 q.c1, .slice q.a2 q.n2 q.c2, .slice q.a3 q.n3 q.c3] := by rw [hw9, ← hs8]; exact Blk.new _ _ _
  have hx9 : Blk w9 lo 26 #[.int .i64 s'.version, .int .i64 s'.next, .int .i64 s'.keep, .int .i64 s'.quota, .slice q.a1 q.n1 q.c1, .slice q.a2 q.n2 q.c2, .slice q.a3 q.n3 q.c3] := by rw [hw9, hw8, hw7]; exact ((hx6.alloc _).alloc _).alloc _
  have hy9 : Blk w9 (lo + 1) 26 #[.int .i64 s'.version, .int .i64 s'.next, .int .i64 s'.keep, .int .i64 s'.quota, .slice q.a1 q.n1 q.c1, .slice q.a2 q.n2 q.c2, .slice q.a3 q.n3 q.c3] := by rw [hw9, hw8]; exact (hy7.alloc _).alloc _
  have hz9 : Blk w9 (lo + 2) 26 #[.int .i64 s'.version, .int .i64 s'.next, .int .i64 s'.keep, .int .i64 s'.quota, .slice q.a1 q.n1 q.c1, .slice q.a2 q.n2 q.c2, .slice q.a3 q.n3 q.c3] := by rw [hw9]; exact hz8.alloc _
  have hk6 : Blk w6 u.heap.size 26 (stblk s' q) := HK5.out.below hb6 hl0
  have hk7 : Blk w7 u.heap.size 26 (stblk s' q) := HK5.out.below hb7 hl0
  have hk8 : Blk w8 u.heap.size 26 (stblk s' q) := HK5.out.below hb8 hl0
  have hk9 : Blk w9 u.heap.size 26 (stblk s' q) := HK5.out.below hb9 hl0
  have HR9 := Lib.hid (show RdT w9 lo s' q from (show RdT w5 lo s' q by rw [hlo]; exact HR5.out).below hb9)
  have hbw9 := hbw5.trans (hb9.mono (by omega))
  have HX9 := Lib.hid hx9
  have HY9 := Lib.hid hy9
  have HZ9 := Lib.hid hz9
  have HT9 := Lib.hid ht9
  have HK6 := Lib.hid hk6
  have HK7 := Lib.hid hk7
  have HK8 := Lib.hid hk8
  have HK9 := Lib.hid hk9
  have HW6 := Lib.hid hw6
  have HW7 := Lib.hid hw7
  have HW8 := Lib.hid hw8
  have HW9 := Lib.hid hw9
  clear hx6 hy7 hz8 hk6 hk7 hk8 hw6 hw7 hw8 hb6 hb7 hb8 hlo
  go_upto_region 8 with fail
  rw [← HW6.out, ← HLO.out]
  clear c0 c1 c2 c3 c4 c5 c6
  obtain ⟨c0, c1, c2, c3, c4, c5, c6⟩ := stblk_cells HK6.out
  go_upto_region 9 with fail
  rw [← HW7.out]
  clear c0 c1 c2 c3 c4 c5 c6
  obtain ⟨c0, c1, c2, c3, c4, c5, c6⟩ := stblk_cells HK7.out
  go_upto_region 10 with fail
  rw [← HW8.out]
  clear c0 c1 c2 c3 c4 c5 c6
  obtain ⟨c0, c1, c2, c3, c4, c5, c6⟩ := stblk_cells HK8.out
  go_upto_region 11 with fail
  rw [← HW9.out]
  clear hx9 hy9 hz9 ht9 hk9 hw9 hk5 c0 c1 c2 c3 c4 c5 c6 HR5 hb5
  obtain ⟨hi, hhi⟩ : ∃ hi, hi = w9.heap.size := ⟨_, rfl⟩
  have hlh : lo + 4 = hi := by rw [hhi, hs9]
  have HHI := Lib.hid hhi
  clear hhi hs6 hs7 hs8 hs9
  have hl9 : hi = w9.heap.size := HHI.out
  have HL9 := Lib.hid hl9
  clear hl9
  have x4 : w9.cell? ⟨u.heap.size, 4, none⟩ = some (.slice q.a1 q.n1 q.c1) := HK9.out.cell 4
  go_upto_if 38 with fail
  go_cut [] (fun wx => ∃ (A : Option Addr) (m c : Nat) (l : List Ses), Blk wx lo 26 #[.int .i64 s'.version, .int .i64 s'.next, .int .i64 s'.keep, .int .i64 s'.quota, .slice A m c, .slice q.a2 q.n2 q.c2, .slice q.a3 q.n3 q.c3] ∧ Blk wx (lo + 1) 26 #[.int .i64 s'.version, .int .i64 s'.next, .int .i64 s'.keep, .int .i64 s'.quota, .slice q.a1 q.n1 q.c1, .slice q.a2 q.n2 q.c2, .slice q.a3 q.n3 q.c3] ∧ Blk wx (lo + 2) 26 #[.int .i64 s'.version, .int .i64 s'.next, .int .i64 s'.keep, .int .i64 s'.quota, .slice q.a1 q.n1 q.c1, .slice q.a2 q.n2 q.c2, .slice q.a3 q.n3 q.c3] ∧ Blk wx (lo + 3) 26 #[.int .i64 s'.version, .int .i64 s'.next, .int .i64 s'.keep, .int .i64 s'.quota, .slice q.a1 q.n1 q.c1, .slice q.a2 q.n2 q.c2, .slice q.a3 q.n3 q.c3] ∧ RowAt secells 4 42 lo hi wx A m c l ∧ l.Sublist s'.sess ∧ Sm lo hi w9 wx)
  case first =>
    by_cases hn : 0 < q.n1
    · have HRS := Lib.hid HR9.out.sess.2
      have HWH := Lib.hid (show hi ≤ w9.heap.size by rw [HL9.out]; exact Nat.le_refl _)
      obtain ⟨hcc1, hcc2⟩ := HR9.out.k1
      obtain ⟨i1, hi1e⟩ : ∃ i : Nat, k % (q.n1 : Int) = (i : Int) := ⟨(k % (q.n1 : Int)).toNat, by have := Int.emod_nonneg k (show (q.n1 : Int) ≠ 0 by omega); omega⟩
      have hi1l : i1 < q.n1 := by have := Int.emod_lt_of_pos k (show (0 : Int) < (q.n1 : Int) by omega); omega
      have hnz : ((q.n1 : Int) == 0) = false := by rw [beq_eq_false_iff_ne]; omega
      go_upto_region 13 with fail
      rw [hi1e]
      clear hi1e
      have h3lt := HK9.out.lt
      have hhw : hi = w9.heap.size := HL9.out
      refine cut_13 _ w9 u.heap.size lo q.n1 q.c1 i1 lo q.a1 (rowc secells s'.sess) _ rfl rfl rfl rfl x4 h3lt HRS.out (by omega) hi1l hcc1 hcc2 (by omega) (rowc_cell se_one _) HX9.out ⟨_, rfl⟩ ?_
      intro vs w10 A10 c10 hg10 hown10
      have HSM10 := Lib.hid (Sm.of_below (lo := lo) (hi := hi) hg10 (by omega))
      have HX10 := Lib.hid (HX9.out.below hg10 HX9.out.lt)
      have HY10 := Lib.hid (HY9.out.below hg10 HY9.out.lt)
      have HZ10 := Lib.hid (HZ9.out.below hg10 HZ9.out.lt)
      have HT10 := Lib.hid (HT9.out.below hg10 HT9.out.lt)
      have HO10 := Lib.hid (show w10.ownsRow hi 42 4 _ _ _ by rw [HL9.out]; exact hown10)
      clear hg10 hown10 hhw h3lt
      simp only [putsOf, List.dropLast]
      go_simp
      go_wp2
      go_meet
      case rel => exact ⟨A10, _, c10, less1 s'.sess i1, by simpa using HX10.out.put 4 (.slice A10 (i1 + (q.n1 - (i1 + 1))) c10), HY10.out.far (by simp) _, HZ10.out.far (by simp) _, HT10.out.far (by simp) _, .inr ⟨own_away (by rw [rowc_less se_len]; exact HO10.out) (blk_apart HX10.out HO10.out (by decide)) _ _, less1_len HR9.out.sess.1 hi1l⟩, less1_sub _ _, HSM10.out.put (Nat.le_refl _) (by omega) _ _⟩
    · go_wp2
      go_meet
      case rel => exact ⟨_, _, _, s'.sess, HX9.out, HY9.out, HZ9.out, HT9.out, .inl ⟨HR9.out.sess, HR9.out.k1⟩, List.Sublist.refl _, Sm.refl _ _ _⟩
  case rest =>
    obtain ⟨A1, m1, e1, l1, hx, hy, hz, ht', hr1, hs1, hsm⟩ := hcut
    have HXa := Lib.hid hx
    have HYa := Lib.hid hy
    have HZa := Lib.hid hz
    have HTa := Lib.hid ht'
    have HR1 := Lib.hid hr1
    have HS1 := Lib.hid hs1
    have HSMa := Lib.hid hsm
    have HKa := Lib.hid (HK9.out.below hsm.below hl0)
    clear hx hy hz ht' hr1 hs1 hsm x4
    obtain ⟨wa, hwa⟩ : ∃ wa, wa = wc := ⟨_, rfl⟩
    subst hwa
    have x5 : wa.cell? ⟨u.heap.size, 5, none⟩ = some (.slice q.a2 q.n2 q.c2) := HKa.out.cell 5
    go_upto_if 60 with fail
    go_cut [] (fun wx => ∃ (A2 : Option Addr) (m2 e2 : Nat) (l2 : List Opn), Blk wx lo 26 #[.int .i64 s'.version, .int .i64 s'.next, .int .i64 s'.keep, .int .i64 s'.quota, .slice A1 m1 e1, .slice q.a2 q.n2 q.c2, .slice q.a3 q.n3 q.c3] ∧ Blk wx (lo + 1) 26 #[.int .i64 s'.version, .int .i64 s'.next, .int .i64 s'.keep, .int .i64 s'.quota, .slice q.a1 q.n1 q.c1, .slice A2 m2 e2, .slice q.a3 q.n3 q.c3] ∧ Blk wx (lo + 2) 26 #[.int .i64 s'.version, .int .i64 s'.next, .int .i64 s'.keep, .int .i64 s'.quota, .slice q.a1 q.n1 q.c1, .slice q.a2 q.n2 q.c2, .slice q.a3 q.n3 q.c3] ∧ Blk wx (lo + 3) 26 #[.int .i64 s'.version, .int .i64 s'.next, .int .i64 s'.keep, .int .i64 s'.quota, .slice q.a1 q.n1 q.c1, .slice q.a2 q.n2 q.c2, .slice q.a3 q.n3 q.c3] ∧ RowAt opcells 2 44 lo hi wx A2 m2 e2 l2 ∧ l2.Sublist s'.opens ∧ Sm lo hi w9 wx ∧ Sm lo hi wa wx)
    case first =>
      by_cases hn : 0 < q.n2
      · have HRS := Lib.hid (HR9.out.opens.2.below HSMa.out.below)
        obtain ⟨hcc1, hcc2⟩ := HR9.out.k2
        obtain ⟨i1, hi1e⟩ : ∃ i : Nat, k % (q.n2 : Int) = (i : Int) := ⟨(k % (q.n2 : Int)).toNat, by have := Int.emod_nonneg k (show (q.n2 : Int) ≠ 0 by omega); omega⟩
        have hi1l : i1 < q.n2 := by have := Int.emod_lt_of_pos k (show (0 : Int) < (q.n2 : Int) by omega); omega
        have hnz : ((q.n2 : Int) == 0) = false := by rw [beq_eq_false_iff_ne]; omega
        go_upto_region 16 with fail
        rw [hi1e]
        clear hi1e
        have h3lt := HKa.out.lt
        have hhw : hi ≤ wa.heap.size := by rw [HL9.out]; exact HSMa.out.size
        refine cut_16 _ wa u.heap.size (lo + 1) q.n2 q.c2 i1 lo q.a2 (rowc opcells s'.opens) _ rfl rfl rfl rfl x5 h3lt HRS.out (by omega) hi1l hcc1 hcc2 (by omega) (rowc_cell op_one _) HYa.out ⟨_, rfl⟩ ?_
        intro vs w10 A10 c10 hg10 hown10
        have HSM10 := Lib.hid (Sm.of_below (lo := lo) (hi := hi) hg10 (by omega))
        have HX10 := Lib.hid (HXa.out.below hg10 HXa.out.lt)
        have HY10 := Lib.hid (HYa.out.below hg10 HYa.out.lt)
        have HZ10 := Lib.hid (HZa.out.below hg10 HZa.out.lt)
        have HT10 := Lib.hid (HTa.out.below hg10 HTa.out.lt)
        have HO10 := Lib.hid (own_down hown10 hhw)
        clear hg10 hown10 hhw h3lt
        simp only [putsOf, List.dropLast]
        go_simp
        go_wp2
        go_meet
        case rel =>
          have hsp := HSM10.out.put (Nat.le_add_right lo 1) (by omega) 5 (.slice A10 (i1 + (q.n2 - (i1 + 1))) c10)
          exact ⟨A10, _, c10, less1 s'.opens i1, HX10.out.far (by simp) _, by simpa using HY10.out.put 5 (.slice A10 (i1 + (q.n2 - (i1 + 1))) c10), HZ10.out.far (by simp) _, HT10.out.far (by simp) _, .inr ⟨own_away (by rw [rowc_less op_len]; exact HO10.out) (blk_apart HY10.out HO10.out (by decide)) _ _, less1_len HR9.out.opens.1 hi1l⟩, less1_sub _ _, HSMa.out.trans hsp, hsp⟩
      · go_wp2
        go_meet
        case rel => exact ⟨_, _, _, s'.opens, HXa.out, HYa.out, HZa.out, HTa.out, .inl ⟨⟨HR9.out.opens.1, HR9.out.opens.2.below HSMa.out.below⟩, HR9.out.k2⟩, List.Sublist.refl _, HSMa.out, Sm.refl _ _ _⟩
    case rest =>
      obtain ⟨A2, m2, e2, l2, hx, hy, hz, ht', hr2, hs2, hsm, hsm'⟩ := hcut
      have HR1 := Lib.hid (HR1.out.sm hsm')
      have HXb := Lib.hid hx
      have HYb := Lib.hid hy
      have HZb := Lib.hid hz
      have HTb := Lib.hid ht'
      have HR2 := Lib.hid hr2
      have HS2 := Lib.hid hs2
      have HSMb := Lib.hid hsm
      have HKb := Lib.hid (HK9.out.below hsm.below hl0)
      clear hx hy hz ht' hr2 hs2 hsm hsm' x5
      obtain ⟨wb, hwb⟩ : ∃ wb, wb = wc := ⟨_, rfl⟩
      subst hwb
      have x6 : wb.cell? ⟨u.heap.size, 6, none⟩ = some (.slice q.a3 q.n3 q.c3) := HKb.out.cell 6
      go_upto_if 82 with fail
      go_cut [] (fun wx => ∃ (A3 : Option Addr) (m3 e3 : Nat) (l3 : List Snp) (S3 : List (Option Addr × Nat)), Blk wx lo 26 #[.int .i64 s'.version, .int .i64 s'.next, .int .i64 s'.keep, .int .i64 s'.quota, .slice A1 m1 e1, .slice q.a2 q.n2 q.c2, .slice q.a3 q.n3 q.c3] ∧ Blk wx (lo + 1) 26 #[.int .i64 s'.version, .int .i64 s'.next, .int .i64 s'.keep, .int .i64 s'.quota, .slice q.a1 q.n1 q.c1, .slice A2 m2 e2, .slice q.a3 q.n3 q.c3] ∧ Blk wx (lo + 2) 26 #[.int .i64 s'.version, .int .i64 s'.next, .int .i64 s'.keep, .int .i64 s'.quota, .slice q.a1 q.n1 q.c1, .slice q.a2 q.n2 q.c2, .slice A3 m3 e3] ∧ RowAtS lo hi wx A3 m3 e3 l3 S3 ∧ l3.Sublist s'.snaps ∧ Sm lo hi w9 wx ∧ Sm lo hi wb wx)
      case first =>
        by_cases hn : 0 < q.n3
        · have HRS := Lib.hid (HR9.out.snaps.2.2.1.below HSMb.out.below)
          obtain ⟨hcc1, hcc2⟩ := HR9.out.k3
          obtain ⟨i1, hi1e⟩ : ∃ i : Nat, k % (q.n3 : Int) = (i : Int) := ⟨(k % (q.n3 : Int)).toNat, by have := Int.emod_nonneg k (show (q.n3 : Int) ≠ 0 by omega); omega⟩
          have hi1l : i1 < q.n3 := by have := Int.emod_lt_of_pos k (show (0 : Int) < (q.n3 : Int) by omega); omega
          have hnz : ((q.n3 : Int) == 0) = false := by rw [beq_eq_false_iff_ne]; omega
          go_upto_region 19 with fail
          rw [hi1e]
          clear hi1e
          have h3lt := HKb.out.lt
          have hhw : hi ≤ wb.heap.size := by rw [HL9.out]; exact HSMb.out.size
          refine cut_19 _ wb u.heap.size (lo + 2) q.n3 q.c3 i1 lo q.a3 (pcells sncells s'.snaps q.S) _ rfl rfl rfl rfl x6 h3lt HRS.out (by omega) hi1l hcc1 hcc2 (by omega) (pcells_cell sn_one _ _) HZb.out ⟨_, rfl⟩ ?_
          intro vs w10 A10 c10 hg10 hown10
          have HSM10 := Lib.hid (Sm.of_below (lo := lo) (hi := hi) hg10 (by omega))
          have HX10 := HXb.out.below hg10 HXb.out.lt
          have HY10 := HYb.out.below hg10 HYb.out.lt
          have HZ10 := HZb.out.below hg10 HZb.out.lt
          have HT10 := HTb.out.below hg10 HTb.out.lt
          have HO10 := own_down hown10 hhw
          clear hg10 hown10 h3lt
          have hs11 := HSM10.out.put (show lo ≤ lo + 2 by omega) (by omega) 6 (.slice A10 (i1 + (q.n3 - (i1 + 1))) c10)
          obtain ⟨w11, hw11⟩ : ∃ w11, w11 = w10.setCell ⟨lo + 2, 6, none⟩ (.slice A10 (i1 + (q.n3 - (i1 + 1))) c10) := ⟨_, rfl⟩
          have HS11 := Lib.hid (show Sm lo hi wb w11 by rw [hw11]; exact hs11)
          have HX11 := Lib.hid (show Blk w11 lo 26 _ by rw [hw11]; exact HX10.far (by simp) _)
          have HY11 := Lib.hid (show Blk w11 (lo + 1) 26 _ by rw [hw11]; exact HY10.far (by simp) _)
          have HT11 := Lib.hid (show Blk w11 (lo + 3) 26 _ by rw [hw11]; exact HT10.far (by simp) _)
          have HZ11 := Lib.hid (show Blk w11 (lo + 2) 26 #[.int .i64 s'.version, .int .i64 s'.next, .int .i64 s'.keep, .int .i64 s'.quota, .slice q.a1 q.n1 q.c1, .slice q.a2 q.n2 q.c2, .slice A10 (i1 + (q.n3 - (i1 + 1))) c10] by rw [hw11]; simpa using HZ10.put 6 (.slice A10 (i1 + (q.n3 - (i1 + 1))) c10))
          have ho11 := own_away HO10 (blk_apart HZ10 HO10 (by decide)) 6 (.slice A10 (i1 + (q.n3 - (i1 + 1))) c10)
          rw [← hw11] at ho11
          have HSW := Lib.hid (HSMb.out.trans HS11.out)
          have HR11 := Lib.hid (row_less HR9.out.snaps HSW.out.below hi1l ho11)
          have HRS11 := Lib.hid (HR9.out.snaps.below HSW.out.below)
          have HK11 := Lib.hid (HK9.out.below HSW.out.below hl0)
          have HW11 := Lib.hid hw11
          clear HX10 HY10 HZ10 HT10 HO10 hs11 ho11 hw11 x6
          have x7 : w11.cell? ⟨u.heap.size, 6, none⟩ = some (.slice q.a3 q.n3 q.c3) := HK11.out.cell 6
          simp only [putsOf, List.dropLast]
          go_simp
          go_upto_region 20 with fail
          rw [← HW11.out]
          obtain ⟨ad, x, sp, hA, hB, hx, hsp, g0, g1, g2, g3, g4, _⟩ := rds_get HRS11.out hi1l
          have h3lt := HK11.out.lt
          have hhw2 : hi ≤ w11.heap.size := Nat.le_trans hhw HS11.out.size
          have hlo11 : lo ≤ w11.heap.size := by omega
          refine cut_20 _ w11 u.heap.size (lo + 3) q.n3 q.c3 i1 lo ad (pcells sncells s'.snaps q.S) x sp _ rfl rfl rfl rfl (by rw [← hA]; exact x7) h3lt (by rw [← hA]; exact HRS11.out.2.2.1) hlo11 hi1l (by omega) (Nat.lt_of_lt_of_le hB hlo11) g0 g1 g2 g3 g4 (pcells_cell sn_one _ _) HT11.out ⟨_, rfl⟩ ?_
          intro vs2 w12 A12 c12 hg12 hown12
          have HS12 := Sm.of_below (lo := lo) (hi := hi) hg12 hlo11
          have HX12 := HX11.out.below hg12 HX11.out.lt
          have HY12 := HY11.out.below hg12 HY11.out.lt
          have HZ12 := HZ11.out.below hg12 HZ11.out.lt
          have HT12 := HT11.out.below hg12 HT11.out.lt
          have HO12 := own_down hown12 hhw2
          clear hg12 hown12 h3lt g0 g1 g2 g3 g4 x7
          have hs13 := HS12.put (show lo ≤ lo + 3 by omega) (by omega) 6 (.slice A12 (q.n3 + 1) c12)
          obtain ⟨w13, hw13⟩ : ∃ w13, w13 = w12.setCell ⟨lo + 3, 6, none⟩ (.slice A12 (q.n3 + 1) c12) := ⟨_, rfl⟩
          have HS13 := Lib.hid (show Sm lo hi w11 w13 by rw [hw13]; exact hs13)
          have HX13 := Lib.hid (show Blk w13 lo 26 _ by rw [hw13]; exact HX12.far (by simp) _)
          have HY13 := Lib.hid (show Blk w13 (lo + 1) 26 _ by rw [hw13]; exact HY12.far (by simp) _)
          have HZ13 := Lib.hid (show Blk w13 (lo + 2) 26 _ by rw [hw13]; exact HZ12.far (by simp) _)
          have ht13 : Blk w13 (lo + 3) 26 #[.int .i64 s'.version, .int .i64 s'.next, .int .i64 s'.keep, .int .i64 s'.quota, .slice q.a1 q.n1 q.c1, .slice q.a2 q.n2 q.c2, .slice A12 (q.n3 + 1) c12] := by rw [hw13]; simpa using HT12.put 6 (.slice A12 (q.n3 + 1) c12)
          have ho13 := own_away HO12 (blk_apart HT12 HO12 (by decide)) 6 (.slice A12 (q.n3 + 1) c12)
          rw [← hw13] at ho13
          have HSV := Lib.hid (HSW.out.trans HS13.out)
          have hlo13 : lo ≤ w13.heap.size := Nat.le_trans hlo11 HS13.out.size
          have HRV := Lib.hid (row_twice (HR9.out.snaps.below HSV.out.below) hx hsp ho13)
          have HRW := Lib.hid (rdt_snaps HR9.out HSV.out.below hlo13 HRV.out)
          have hmem := List.mem_of_getElem? hx
          have HTK2 := Lib.hid (tok_twice HTK.out hmem)
          have HSM2 := Lib.hid (small_twice HSM.out HLN.out.2.2.1 hmem)
          have HMT := Lib.hid (may_twice (s := s') HVR.out hmem)
          have HW13 := Lib.hid hw13
          have HR13 := Lib.hid (HR11.out.sm HS13.out)
          clear HX12 HY12 HZ12 HT12 HO12 hs13 ho13 hw13 HS12 hx hsp hA hB hmem
          obtain ⟨c0, c1, c2, c3, c4, c5, c6⟩ : w13.cell? ⟨lo + 3, 0, none⟩ = some (.int .i64 s'.version) ∧ w13.cell? ⟨lo + 3, 1, none⟩ = some (.int .i64 s'.next) ∧ w13.cell? ⟨lo + 3, 2, none⟩ = some (.int .i64 s'.keep) ∧ w13.cell? ⟨lo + 3, 3, none⟩ = some (.int .i64 s'.quota) ∧ w13.cell? ⟨lo + 3, 4, none⟩ = some (.slice q.a1 q.n1 q.c1) ∧ w13.cell? ⟨lo + 3, 5, none⟩ = some (.slice q.a2 q.n2 q.c2) ∧ w13.cell? ⟨lo + 3, 6, none⟩ = some (.slice A12 (q.n3 + 1) c12) := ⟨ht13.cell 0, ht13.cell 1, ht13.cell 2, ht13.cell 3, ht13.cell 4, ht13.cell 5, ht13.cell 6⟩
          clear ht13
          simp only [putsOf, List.dropLast]
          go_simp
          go_upto_region 21 with fail
          rw [← HW13.out]
          go_wp2_with fail
          refine (may_p _ _ v w13 HRW.out HTK2.out HSM2.out hvi).mono ?_
          rintro e w14 ⟨rfl, hb14⟩
          rw [HMT.out]
          have hs14 := Sm.of_below (lo := lo) (hi := hi) hb14 hlo13
          go_wp2
          go_meet
          case rel => exact ⟨A10, _, c10, less1 s'.snaps i1, less1 q.S i1, HX13.out.below hb14 HX13.out.lt, HY13.out.below hb14 HY13.out.lt, HZ13.out.below hb14 HZ13.out.lt, HR13.out.sm hs14, less1_sub _ _, HSV.out.trans hs14, (HS11.out.trans HS13.out).trans hs14⟩
        · go_wp2
          go_meet
          case rel => exact ⟨_, _, _, s'.snaps, q.S, HXb.out, HYb.out, HZb.out, .inl ⟨HR9.out.snaps.below HSMb.out.below, HR9.out.k3⟩, List.Sublist.refl _, HSMb.out, Sm.refl _ _ _⟩
      case rest =>
        obtain ⟨A3, m3, e3, l3, S3, hx, hy, hz, hr3, hs3, hsm, hsm'⟩ := hcut
        have HR1 := Lib.hid (HR1.out.sm hsm')
        have HR2 := Lib.hid (HR2.out.sm hsm')
        have HR3 := Lib.hid hr3
        have HS3 := Lib.hid hs3
        have HSMc := Lib.hid hsm
        have HXc := Lib.hid hx
        have HYc := Lib.hid hy
        have HZc := Lib.hid hz
        clear hx hy hz hr3 hs3 hsm hsm' x6
        obtain ⟨wd, hwd⟩ : ∃ wd, wd = wc := ⟨_, rfl⟩
        subst hwd
        have hlod : lo ≤ wd.heap.size := Nat.le_of_lt HXc.out.lt
        have HTX := Lib.hid (tok_sess HTK.out HS1.out)
        have HMX := Lib.hid (small_sess HSM.out HS1.out)
        have HVX := Lib.hid (may_sess HVR.out HO.out HS1.out)
        have HTY := Lib.hid (tok_opens HTK.out HS2.out)
        have HMY := Lib.hid (small_opens HSM.out HS2.out)
        have HVY := Lib.hid (may_opens HVR.out HO.out HS2.out)
        have HTZ := Lib.hid (tok_snaps HTK.out HS3.out)
        have HMZ := Lib.hid (small_snaps HSM.out HS3.out)
        have HVZ := Lib.hid (may_snaps HVR.out HO.out HS3.out)
        have HRX := Lib.hid (rdt_sess HR9.out HSMc.out.below hlod HR1.out)
        have hxd := HXc.out
        obtain ⟨c0, c1, c2, c3, c4, c5, c6⟩ : wd.cell? ⟨lo, 0, none⟩ = some (.int .i64 s'.version) ∧ wd.cell? ⟨lo, 1, none⟩ = some (.int .i64 s'.next) ∧ wd.cell? ⟨lo, 2, none⟩ = some (.int .i64 s'.keep) ∧ wd.cell? ⟨lo, 3, none⟩ = some (.int .i64 s'.quota) ∧ wd.cell? ⟨lo, 4, none⟩ = some (.slice A1 m1 e1) ∧ wd.cell? ⟨lo, 5, none⟩ = some (.slice q.a2 q.n2 q.c2) ∧ wd.cell? ⟨lo, 6, none⟩ = some (.slice q.a3 q.n3 q.c3) := ⟨hxd.cell 0, hxd.cell 1, hxd.cell 2, hxd.cell 3, hxd.cell 4, hxd.cell 5, hxd.cell 6⟩
        clear hxd
        go_wp2_with fail
        refine (may_p _ _ v wd HRX.out HTX.out HMX.out hvi).mono ?_
        rintro e we ⟨rfl, hbe⟩
        rw [HVX.out]
        have hse := Sm.of_below (lo := lo) (hi := hi) hbe hlod
        have HSMe := Lib.hid (HSMc.out.trans hse)
        have HR2 := Lib.hid (HR2.out.sm hse)
        have HR3 := Lib.hid (HR3.out.sm hse)
        have hloe : lo ≤ we.heap.size := Nat.le_trans hlod hse.size
        have hyd := HYc.out.below hbe HYc.out.lt
        have HZe := Lib.hid (HZc.out.below hbe HZc.out.lt)
        have HRY := Lib.hid (rdt_opens HR9.out HSMe.out.below hloe HR2.out)
        clear c0 c1 c2 c3 c4 c5 c6 hse hbe
        obtain ⟨c0, c1, c2, c3, c4, c5, c6⟩ : we.cell? ⟨lo + 1, 0, none⟩ = some (.int .i64 s'.version) ∧ we.cell? ⟨lo + 1, 1, none⟩ = some (.int .i64 s'.next) ∧ we.cell? ⟨lo + 1, 2, none⟩ = some (.int .i64 s'.keep) ∧ we.cell? ⟨lo + 1, 3, none⟩ = some (.int .i64 s'.quota) ∧ we.cell? ⟨lo + 1, 4, none⟩ = some (.slice q.a1 q.n1 q.c1) ∧ we.cell? ⟨lo + 1, 5, none⟩ = some (.slice A2 m2 e2) ∧ we.cell? ⟨lo + 1, 6, none⟩ = some (.slice q.a3 q.n3 q.c3) := ⟨hyd.cell 0, hyd.cell 1, hyd.cell 2, hyd.cell 3, hyd.cell 4, hyd.cell 5, hyd.cell 6⟩
        clear hyd
        go_wp2_with fail
        refine (may_p _ _ v we HRY.out HTY.out HMY.out hvi).mono ?_
        rintro e wf ⟨rfl, hbf⟩
        rw [HVY.out]
        have hsf := Sm.of_below (lo := lo) (hi := hi) hbf hloe
        have HSMf := Lib.hid (HSMe.out.trans hsf)
        have HR3 := Lib.hid (HR3.out.sm hsf)
        have hlof : lo ≤ wf.heap.size := Nat.le_trans hloe hsf.size
        have hzd := HZe.out.below hbf HZe.out.lt
        have HRZ := Lib.hid (rdt_snaps HR9.out HSMf.out.below hlof HR3.out)
        clear c0 c1 c2 c3 c4 c5 c6 hsf hbf
        obtain ⟨c0, c1, c2, c3, c4, c5, c6⟩ : wf.cell? ⟨lo + 2, 0, none⟩ = some (.int .i64 s'.version) ∧ wf.cell? ⟨lo + 2, 1, none⟩ = some (.int .i64 s'.next) ∧ wf.cell? ⟨lo + 2, 2, none⟩ = some (.int .i64 s'.keep) ∧ wf.cell? ⟨lo + 2, 3, none⟩ = some (.int .i64 s'.quota) ∧ wf.cell? ⟨lo + 2, 4, none⟩ = some (.slice q.a1 q.n1 q.c1) ∧ wf.cell? ⟨lo + 2, 5, none⟩ = some (.slice q.a2 q.n2 q.c2) ∧ wf.cell? ⟨lo + 2, 6, none⟩ = some (.slice A3 m3 e3) := ⟨hzd.cell 0, hzd.cell 1, hzd.cell 2, hzd.cell 3, hzd.cell 4, hzd.cell 5, hzd.cell 6⟩
        clear hzd
        go_wp2_with fail
        refine (may_p _ _ v wf HRZ.out HTZ.out HMZ.out hvi).mono ?_
        rintro e wg ⟨rfl, hbg⟩
        rw [HVZ.out]
        have HEND := Lib.hid (HSMf.out.trans (Sm.of_below (lo := lo) (hi := hi) hbg hlof)).below
        clear c0 c1 c2 c3 c4 c5 c6 hbg
        go_wp2
        go_ret
        exact ⟨rfl, hbw9.trans (HEND.out.mono (by omega))⟩
end Go.Proofs.Ytdkjdiamekfbdaa
