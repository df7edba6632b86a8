/-
  The walk of the law StateKept.
-/
import Derived.Test.YtdkjdiamekfbdaaStLaw
import Derived.BigQuiet
namespace Go.Proofs.Ytdkjdiamekfbdaa
open Go.RowKit
open Rf (Snp)
open St (Ses Opn Sta keptS behind)

/-- How many up to a place have that set. -/
def cntTo (l : List Snp) (j : Nat) (c : Int) : Nat := (l.take j).countP fun x => x.set == c
theorem cntTo_step {l : List Snp} {j : Nat} {y : Snp} (h : l[j]? = some y) (c : Int) : cntTo l (j + 1) c = cntTo l j c + if (y.set == c) = true then 1 else 0 := by
  unfold cntTo
  rw [List.take_add_one, List.countP_append, h]
  simp only [Option.toList_some, List.countP_cons, List.countP_nil, Nat.zero_add]
theorem cntTo_all {l : List Snp} {j : Nat} (h : l.length ≤ j) (c : Int) : cntTo l j c = l.countP fun x => x.set == c := by
  unfold cntTo
  rw [List.take_of_length_le h]
theorem cntTo_behind (l : List Snp) (k : Nat) (c : Int) : cntTo l (k + 1) c + behind l k c = l.countP fun x => x.set == c := by
  unfold cntTo behind
  rw [← List.countP_append, List.take_append_drop]
theorem cntTo_le (l : List Snp) (j : Nat) (c : Int) : cntTo l j c ≤ l.countP fun x => x.set == c := by
  unfold cntTo
  exact (List.take_sublist j l).countP_le
theorem cntTo_j (l : List Snp) (j : Nat) (c : Int) : cntTo l j c ≤ j := by
  unfold cntTo
  have := List.countP_le_length (p := fun x : Snp => x.set == c) (l := l.take j)
  rw [List.length_take] at this
  omega
/-- How many of the first A of T are kept. -/
def Kpt (T : Nat) (keep : Int) (A K : Nat) : Prop := (0 < (T : Int) - keep → ((A : Int) ≤ (T : Int) - keep → K = 0) ∧ ((T : Int) - keep < A → (K : Int) = A - ((T : Int) - keep))) ∧ ((T : Int) - keep ≤ 0 → K = A)
def Bhd (T : Nat) (keep : Int) (A : Nat) : Bool := decide (1 ≤ A) && decide ((T : Int) - A < keep)
theorem kpt_zero (T : Nat) (keep : Int) : Kpt T keep 0 0 := by unfold Kpt; omega
theorem kpt_yes {T A K : Nat} {keep : Int} (h : Kpt T keep A K) (hy : (T : Int) - (A + 1 : Nat) < keep) : Kpt T keep (A + 1) (K + 1) := by unfold Kpt at *; omega
theorem kpt_no {T A K : Nat} {keep : Int} (h : Kpt T keep A K) (hn : ¬ (T : Int) - (A + 1 : Nat) < keep) : Kpt T keep (A + 1) K := by unfold Kpt at *; omega
theorem kpt_end {T K : Nat} {keep : Int} (h : Kpt T keep T K) : (K : Int) = min (max keep 0) T := by unfold Kpt at *; omega
theorem bhd_zero (T : Nat) (keep : Int) : Bhd T keep 0 = false := rfl
theorem bhd_step {T A : Nat} {keep : Int} (h : Bhd T keep A = true) : (T : Int) - (A + 1 : Nat) < keep := by
  unfold Bhd at h
  simp only [Bool.and_eq_true, decide_eq_true_eq] at h
  omega
theorem bhd_is {T A : Nat} {keep : Int} {D : Bool} (h : decide ((T : Int) - (A + 1 : Nat) < keep) = D) : Bhd T keep (A + 1) = D := by
  unfold Bhd
  rw [h, decide_eq_true (show 1 ≤ A + 1 by omega)]; rfl

set_option maxHeartbeats 8000000 in
set_option maxRecDepth 100000 in
theorem stkeptl_any (s : Sta) (p : Pls) (u : World) (h : RdT u u.heap.size s p) (ht : Tok s) : Calls Try.prog 6 #[stagg s p] u fun e w' => e = .returned (.bool true) ∧ Below u.heap.size u w' := by
  obtain ⟨w0, hw0, hk0, hb0, hs0⟩ := box_st u s p 26
  obtain ⟨s', hs'⟩ : ∃ s', lessT s = s' := ⟨_, rfl⟩
  have HTK := Lib.hid (show Tok s' by rw [← hs']; exact lessT_tok ht)
  have HSM := Lib.hid (show Small s' by rw [← hs']; exact lessT_small s)
  have HLN := Lib.hid (show s'.sess.length ≤ 20 ∧ s'.opens.length ≤ 20 ∧ s'.snaps.length ≤ 20 ∧ ∀ a ∈ s'.snaps, a.chunks.length ≤ 12 ∧ a.tag.length ≤ 40 by rw [← hs']; exact lessT_len s)
  have HLS := Lib.hid (fun (w : World) (hb : Below u.heap.size u w) => (by have := less_any s p u.heap.size w (h.below hb) hb.size; rw [hs'] at this; exact this : Calls Try.prog 10 #[stagg s p] w (LsBack w u.heap.size s')))
  have HK0 := Lib.hid hk0
  have HW := Lib.hid hw0
  clear h ht hs' hk0 hw0
  unfold stagg stblk
  go_enter Try.func6, Try.ntmps6
  go_upto_region 1 with fail
  rw [show u.alloc (.cells #[.int .i64 s.version, .int .i64 s.next, .int .i64 s.keep, .int .i64 s.quota, .slice p.a1 p.n1 p.c1, .slice p.a2 p.n2 p.c2, .slice p.a3 p.n3 p.c3] 26) = w0 from HW.out.symm]
  go_wp2_with fail
  refine (stshown_any _).mono ?_
  rintro e w1 ⟨rfl, hb1⟩
  have hbw1 : Below u.heap.size u w1 := hb0.trans (hb1.mono hb0.size)
  have hgl : u.heap.size < w1.heap.size := Nat.lt_of_lt_of_le hs0 hb1.size
  have hk1 := HK0.out.below hb1 hs0
  obtain ⟨c0, c1, c2, c3, c4, c5, c6⟩ := stblk_cells hk1
  have HK1 := Lib.hid hk1
  clear hk1
  go_wp2_with fail
  refine (HLS.out w1 hbw1).mono ?_
  rintro e w2 ⟨q, rfl, hlt, hb2⟩
  have hk2 := HK1.out.below hb2 hgl
  obtain ⟨d0, d1, d2, d3, d4, d5, d6⟩ := stblk_cells hk2
  have z0 := hk2.frozen 0
  have z1 := hk2.frozen 1
  have z2 := hk2.frozen 2
  have z3 := hk2.frozen 3
  have z4 := hk2.frozen 4
  have z5 := hk2.frozen 5
  have z6 := hk2.frozen 6
  have hbw2 : Below u.heap.size u w2 := hbw1.trans (hb2.mono hbw1.size)
  obtain ⟨hk3, hg3⟩ := stput_blk (s' := s') (q' := q) hk2
  have hlt3 := hlt.grown hg3 (Nat.le_refl _) hgl hbw2.size
  obtain ⟨w3, hw3⟩ : ∃ w3, w3 = stput w2 u.heap.size s' q := ⟨_, rfl⟩
  rw [← hw3] at hk3 hg3 hlt3
  have hbw3 : Below u.heap.size u w3 := hbw2.grown hg3 hbw2.size (fun k hk => by injection hk with hk; omega)
  have hl3 := hk3.lt
  have HRT := Lib.hid (hlt3.rdt hbw3.size)
  have HLT := Lib.hid hlt3
  have HK3 := Lib.hid hk3
  have HW3 := Lib.hid hw3
  clear hlt hlt3 hk2 hk3 hg3 hw3 c0 c1 c2 c3 c4 c5 c6
  unfold stagg stblk
  go_upto_region 3 with fail
  rw [show ((((((w2.setCell ⟨u.heap.size, 0, none⟩ (.int .i64 s'.version)).setCell ⟨u.heap.size, 1, none⟩ (.int .i64 s'.next)).setCell ⟨u.heap.size, 2, none⟩ (.int .i64 s'.keep)).setCell ⟨u.heap.size, 3, none⟩ (.int .i64 s'.quota)).setCell ⟨u.heap.size, 4, none⟩ (.slice q.a1 q.n1 q.c1)).setCell ⟨u.heap.size, 5, none⟩ (.slice q.a2 q.n2 q.c2)).setCell ⟨u.heap.size, 6, none⟩ (.slice q.a3 q.n3 q.c3) = w3 from HW3.out.symm]
  clear d0 d1 d2 d3 d4 d5 d6 z0 z1 z2 z3 z4 z5 z6
  have m3 : q.n3 ≤ 20 := by rw [← HRT.out.snaps.1]; exact HLN.out.2.2.1
  go_wp2
  go_loopw [4] (fun i wr => ∃ j : Nat, j ≤ q.n3 ∧ i = .int .i64 (j : Int) ∧ Below w3.heap.size w3 wr) (fun i _ => q.n3 - (intOf i).toNat)
  case atStart => exact ⟨0, Nat.zero_le _, rfl, Below.refl _ _⟩
  case round =>
    obtain ⟨i, hi, rfl, hb⟩ := hrel
    have hsz := hb.size
    have hlr : u.heap.size < wr.heap.size := Nat.lt_of_lt_of_le hl3 hsz
    obtain ⟨c0, c1, c2, c3, c4, c5, c6⟩ := stblk_cells (HK3.out.below hb hl3)
    by_cases hlt : i < q.n3
    · obtain ⟨ad, x, t, had, hab, hx, _, g0, g1, g2, g3, g4, _, _, _⟩ := rds_get (HRT.out.snaps.below hb) hlt
      have HAD := Lib.hid had
      have HGW := Lib.hid g1
      have HAB := Lib.hid (show (ad.add (i * 5)).block < wr.heap.size by rw [add_block]; omega)
      obtain ⟨T, hT⟩ : ∃ T, s'.snaps.countP (fun y => y.set == x.set) = T := ⟨_, rfl⟩
      have HT := Lib.hid hT
      have hT20 : T ≤ 20 := by rw [← hT]; exact Nat.le_trans (List.countP_le_length) (by rw [HRT.out.snaps.1]; exact m3)
      clear had hx g0 g1 g2 g3 g4 hT
      have hii : (i : Int) < (q.n3 : Int) := by omega
      have hbo := hb
      have HBO := Lib.hid hb
      have hK := HTK.out.k
      obtain ⟨wo, hwo⟩ : ∃ wo, wo = wr := ⟨_, rfl⟩
      subst hwo
      go_wp2
      go_loopw [5, 6, 7, 8] (fun a kp bh i wx => ∃ (j A K : Nat) (b : Bool), j ≤ q.n3 ∧ i = .int .i64 (j : Int) ∧ a = .int .i64 (A : Int) ∧ kp = .int .i64 (K : Int) ∧ bh = .bool b ∧ A ≤ j ∧ K ≤ A ∧ cntTo s'.snaps j x.set = A ∧ Kpt T s'.keep A K ∧ Bhd T s'.keep A = b ∧ Below wo.heap.size wo wx) (fun _ _ _ i _ => q.n3 - (intOf i).toNat)
      case atStart => exact ⟨0, 0, 0, false, Nat.zero_le _, rfl, rfl, rfl, rfl, Nat.le_refl _, Nat.le_refl _, rfl, kpt_zero _ _, bhd_zero _ _, Below.refl _ _⟩
      case round =>
        clear hb hsz c0 c1 c2 c3 c4 c5 c6
        obtain ⟨j, A, K, b, hj, rfl, rfl, rfl, rfl, hAj, hKA, hcn, hkp, hbh, hb2⟩ := hrel
        have hb := HBO.out
        have hb3 := hb.trans (hb2.mono hb.size)
        have hsz := hb3.size
        have hlr2 : u.heap.size < wr.heap.size := Nat.lt_of_lt_of_le hl3 hsz
        obtain ⟨c0, c1, c2, c3, c4, c5, c6⟩ := stblk_cells (HK3.out.below hb3 hl3)
        have HCN := Lib.hid hcn
        have HKP := Lib.hid hkp
        have HBH := Lib.hid hbh
        clear hcn hkp hbh
        by_cases hlt2 : j < q.n3
        · obtain ⟨ad', y, t', had, hab', hy, _, k0, k1, k2, k3, k4, _, _, _⟩ := rds_get (HRT.out.snaps.below hb3) hlt2
          obtain rfl : ad' = ad := by rw [HAD.out] at had; injection had with had; exact had.symm
          have g1 := (hb2.cell (p := ⟨(ad'.add (i * 5)).block, (ad'.add (i * 5)).off + 1, none⟩) HAB.out).trans HGW.out
          have C6 := Lib.hid c6
          rw [HAD.out] at c6
          have hji : (j : Int) < (q.n3 : Int) := by omega
          have hst := cntTo_step hy x.set
          rw [HCN.out] at hst
          have hbe := cntTo_behind s'.snaps j x.set
          rw [HT.out] at hbe
          have hks := fun e : y.set = x.set => keptS_some (s := s') (k := j) hy
          have HST := Lib.hid hst
          have HBE := Lib.hid hbe
          have HY := Lib.hid hy
          obtain ⟨D, hD⟩ : ∃ D, (y.set != x.set) = D := ⟨_, rfl⟩
          have HD := Lib.hid hD
          clear hst hbe hks hy had k0 k2 k3 k4
          go_upto_region 12 with fail
          go_quiet (fail)
          replace c6 := C6.out
          clear g1 k1
          cases D with
          | true =>
            have hc := HST.out
            rw [if_neg (by have := HD.out; rw [bne_iff_ne] at this; rw [beq_iff_eq]; exact this)] at hc
            have HC2 := Lib.hid hc
            clear hc hD
            go_wp2
            go_roundw
            case rel => exact ⟨j + 1, A, K, b, by omega, by go_num, rfl, rfl, rfl, by omega, by omega, HC2.out, HKP.out, HBH.out, bel_drew' hb2 _⟩
            case measure => simp [intOf]; omega
          | false =>
            have he : y.set = x.set := by have := HD.out; simpa using this
            have hc := HST.out
            rw [if_pos (by rw [he]; simp)] at hc
            have HC2 := Lib.hid hc
            have hbe : A + 1 + behind s'.snaps j x.set = T := by rw [← HBE.out, HC2.out]
            obtain ⟨E, hE⟩ : ∃ E, decide ((T : Int) - (A + 1 : Nat) < s'.keep) = E := ⟨_, rfl⟩
            have HE := Lib.hid hE
            have hkv : keptS s' (j : Int) = E := by
              rw [keptS_some HY.out, he, ← hE]
              refine decide_eq_decide.2 ?_
              omega
            have HKV := Lib.hid hkv
            clear hc hD he hbe hE hkv
            go_wp2_with fail
            refine (kept_p s' q (j : Int) _ ((HRT.out.below (bel_drew' hb3 _)).more (bel_drew' hb3 _).size) HTK.out HSM.out (by unfold I64; omega)).mono ?_
            rintro e w6 ⟨rfl, hb6⟩
            rw [HKV.out]
            have hb26 : Below wo.heap.size wo w6 := (bel_drew' hb2 _).trans (hb6.mono (bel_drew' hb2 _).size)
            have hbs := fun e : b = true => bhd_step (T := T) (A := A) (keep := s'.keep) (by rw [HBH.out]; exact e)
            cases E with
            | true =>
              clear hbs
              cases b
              all_goals
                go_wp2
                go_roundw
                case rel => exact ⟨j + 1, A + 1, K + 1, true, by omega, by go_num, by go_num, by go_num, rfl, by omega, by omega, HC2.out, kpt_yes HKP.out (of_decide_eq_true HE.out), bhd_is HE.out, hb26⟩
                case measure => simp [intOf]; omega
            | false =>
              cases b with
              | true => exact absurd (hbs rfl) (of_decide_eq_false HE.out)
              | false =>
                clear hbs
                go_wp2
                go_roundw
                case rel => exact ⟨j + 1, A + 1, K, false, by omega, by go_num, by go_num, rfl, rfl, by omega, by omega, HC2.out, kpt_no HKP.out (of_decide_eq_false HE.out), bhd_is HE.out, hb26⟩
                case measure => simp [intOf]; omega
        · obtain rfl : j = q.n3 := by omega
          have hcn := HCN.out
          rw [cntTo_all (by rw [HRT.out.snaps.1]; exact Nat.le_refl _), HT.out] at hcn
          obtain rfl : A = T := hcn.symm
          have hfin := kpt_end HKP.out
          have hm : ((K : Int) != min (max s'.keep 0) (A : Int)) = false := by rw [← hfin]; simp
          clear hfin
          go_wp2
          go_roundw
          case rel => exact ⟨i + 1, by omega, by go_num, hb3⟩
          case measure => simp [intOf]; omega
    · obtain rfl : i = q.n3 := by omega
      have hkn : ∀ w, Below w3.heap.size w3 w → Calls Try.prog 22 #[stagg s' q, .int .i64 (-1)] w fun e w' => e = .returned (.bool false) ∧ Below w.heap.size w w' := fun w hw => (kept_p s' q (-1) w ((HRT.out.below hw).more hw.size) HTK.out HSM.out (by unfold I64; decide)).mono fun e w' hh => ⟨by rw [hh.1, keptS_none (.inl (by decide))], hh.2⟩
      have hkl : ∀ w, Below w3.heap.size w3 w → Calls Try.prog 22 #[stagg s' q, .int .i64 (q.n3 : Int)] w fun e w' => e = .returned (.bool false) ∧ Below w.heap.size w w' := fun w hw => (kept_p s' q (q.n3 : Int) w ((HRT.out.below hw).more hw.size) HTK.out HSM.out (by unfold I64; omega)).mono fun e w' hh => ⟨by rw [hh.1, keptS_none (.inr (by rw [HRT.out.snaps.1]; exact Int.le_refl _))], hh.2⟩
      have HKN := Lib.hid hkn
      have HKL := Lib.hid hkl
      clear hkn hkl
      go_wp2_with fail
      refine (HKN.out wr hb).mono ?_
      rintro e w6 ⟨rfl, hb6⟩
      have hb36 := hb.trans (hb6.mono hsz)
      clear c0 c1 c2 c3 c4 c5 c6
      obtain ⟨c0, c1, c2, c3, c4, c5, c6⟩ := stblk_cells (HK3.out.below hb36 hl3)
      go_wp2_with fail
      refine (HKL.out w6 hb36).mono ?_
      rintro e w7 ⟨rfl, hb7⟩
      go_wp2
      go_ret
      exact ⟨rfl, hbw3.trans ((hb36.trans (hb7.mono hb36.size)).mono hbw3.size)⟩
end Go.Proofs.Ytdkjdiamekfbdaa
