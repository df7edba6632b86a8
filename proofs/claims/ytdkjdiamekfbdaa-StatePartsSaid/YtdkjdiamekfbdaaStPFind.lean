/-
  The walks of the landed state.Fresh, Client, Opened, Snap, Kept.
-/
import Derived.Test.YtdkjdiamekfbdaaStPSm
import Derived.Test.YtdkjdiamekfbdaaStCopy
import Derived.Test.YtdkjdiamekfbdaaStKept
import Derived.Test.YtdkjdiamekfbdaaDropP
namespace Go.Proofs.Ytdkjdiamekfbdaa
open Go.RowKit
open Rf (Snp)
open Cm (inR)
open St (Ses Opn Sta clientS openedS snapS keptS behind)

set_option maxRecDepth 100000 in
theorem fresh_p (w : World) : Calls Try.prog 12 #[] w (StBack w St.fresh) := by
  go_enter Try.func12, Try.ntmps12
  go_wp2
  (try simp only [Exit.inBlock, Exit.then])
  exact bodyPost_ret (results_cell_row rfl _ _ w.heap.size 26 (stblk St.fresh noPls) (0, 0) _ rfl (heap_alloc_new w _) Try.underlying26 rfl (by kernel_rfl)) rfl ⟨noPls, rfl, rdt_fresh _ _, (Below.refl _ _).alloc (Nat.le_refl _) _⟩

set_option maxHeartbeats 1000000 in
set_option maxRecDepth 100000 in
theorem client_p (s : Sta) (p : Pls) (x : Int) (w : World) (h : RdT w w.heap.size s p) (_ht : Tok s) (_hsm : Small s) (_hx : I64 x) : Calls Try.prog 16 #[stagg s p, .int .i64 x] w fun e w' => e = .returned (.int .i64 (clientS s x)) ∧ Below w.heap.size w w' := by
  obtain ⟨w0, hw0, hk0, hb0, hs0⟩ := box_st w s p 26
  have HC := Lib.hid (place_se p.a1 p.n1 p.c1 s.sess x w0 (by have := h.k1; omega) ((h.sess.below hb0).more hb0.size))
  have c0 := (hk0.cell 4).trans (show (stblk s p)[4]? = some (.slice p.a1 p.n1 p.c1) from rfl)
  have HW := Lib.hid hw0
  clear h hw0 hk0
  unfold stagg stblk
  go_enter Try.func16, Try.ntmps16
  go_upto_region 1 with fail
  rw [show (w.alloc (.cells #[.int .i64 s.version, .int .i64 s.next, .int .i64 s.keep, .int .i64 s.quota, .slice p.a1 p.n1 p.c1, .slice p.a2 p.n2 p.c2, .slice p.a3 p.n3 p.c3] 26)) = w0 from HW.out.symm]
  go_wp2_with fail
  refine HC.out.mono ?_
  rintro _ w1 ⟨rfl, hb1⟩
  go_wp2
  go_ret
  exact ⟨rfl, hb0.trans (hb1.mono hb0.size)⟩

set_option maxHeartbeats 1000000 in
set_option maxRecDepth 100000 in
theorem opened_p (s : Sta) (p : Pls) (x : Int) (w : World) (h : RdT w w.heap.size s p) (_ht : Tok s) (_hsm : Small s) (_hx : I64 x) : Calls Try.prog 18 #[stagg s p, .int .i64 x] w fun e w' => e = .returned (.int .i64 (openedS s x)) ∧ Below w.heap.size w w' := by
  obtain ⟨w0, hw0, hk0, hb0, hs0⟩ := box_st w s p 26
  have HC := Lib.hid (place_op p.a2 p.n2 p.c2 s.opens x w0 (by have := h.k2; omega) ((h.opens.below hb0).more hb0.size))
  have c0 := (hk0.cell 5).trans (show (stblk s p)[5]? = some (.slice p.a2 p.n2 p.c2) from rfl)
  have HW := Lib.hid hw0
  clear h hw0 hk0
  unfold stagg stblk
  go_enter Try.func18, Try.ntmps18
  go_upto_region 1 with fail
  rw [show (w.alloc (.cells #[.int .i64 s.version, .int .i64 s.next, .int .i64 s.keep, .int .i64 s.quota, .slice p.a1 p.n1 p.c1, .slice p.a2 p.n2 p.c2, .slice p.a3 p.n3 p.c3] 26)) = w0 from HW.out.symm]
  go_wp2_with fail
  refine HC.out.mono ?_
  rintro _ w1 ⟨rfl, hb1⟩
  go_wp2
  go_ret
  exact ⟨rfl, hb0.trans (hb1.mono hb0.size)⟩

set_option maxHeartbeats 1000000 in
set_option maxRecDepth 100000 in
theorem snapid_p (s : Sta) (p : Pls) (x : Int) (w : World) (h : RdT w w.heap.size s p) (_ht : Tok s) (_hsm : Small s) (_hx : I64 x) : Calls Try.prog 20 #[stagg s p, .int .i64 x] w fun e w' => e = .returned (.int .i64 (snapS s x)) ∧ Below w.heap.size w w' := by
  obtain ⟨w0, hw0, hk0, hb0, hs0⟩ := box_st w s p 26
  have HC := Lib.hid (place_sn p.a3 p.n3 p.c3 s.snaps p.S x w0 (by have := h.k3; omega) ((h.snaps.below hb0).more hb0.size))
  have c0 := (hk0.cell 6).trans (show (stblk s p)[6]? = some (.slice p.a3 p.n3 p.c3) from rfl)
  have HW := Lib.hid hw0
  clear h hw0 hk0
  unfold stagg stblk
  go_enter Try.func20, Try.ntmps20
  go_upto_region 1 with fail
  rw [show (w.alloc (.cells #[.int .i64 s.version, .int .i64 s.next, .int .i64 s.keep, .int .i64 s.quota, .slice p.a1 p.n1 p.c1, .slice p.a2 p.n2 p.c2, .slice p.a3 p.n3 p.c3] 26)) = w0 from HW.out.symm]
  go_wp2_with fail
  refine HC.out.mono ?_
  rintro _ w1 ⟨rfl, hb1⟩
  go_wp2
  go_ret
  exact ⟨rfl, hb0.trans (hb1.mono hb0.size)⟩

set_option maxHeartbeats 2000000 in
set_option maxRecDepth 100000 in
theorem kept_p (s : Sta) (p : Pls) (a : Int) (w : World) (h : RdT w w.heap.size s p) (_ht : Tok s) (_hsm : Small s) (hx : I64 a) : Calls Try.prog 22 #[stagg s p, .int .i64 a] w fun e w' => e = .returned (.bool (keptS s a)) ∧ Below w.heap.size w w' := by
  obtain ⟨i0, hi, hz0, hz1, hz2⟩ := info_parts snap_info
  obtain ⟨w0, hw0, hk0, hb0, hs0⟩ := box_st w s p 26
  have HK := Lib.hid hk0
  have HR := Lib.hid ((h.snaps.below hb0).more (Nat.le_of_lt hs0))
  have HL := Lib.hid (h.snaps.1)
  obtain ⟨q0, q1⟩ := h.k3
  have HW := Lib.hid hw0
  have hc := stblk_cells hk0
  obtain ⟨a3, n3, c3, hpe⟩ : ∃ a n c, p.a3 = a ∧ p.n3 = n ∧ p.c3 = c := ⟨_, _, _, rfl, rfl, rfl⟩
  obtain ⟨e1, e2, e3⟩ := hpe
  rw [e1, e2, e3] at hc
  rw [e1, e2] at HR
  rw [e2] at HL
  rw [e2, e3] at q0
  rw [e3] at q1
  have hK6 : ∀ u, Below w0.heap.size w0 u → u.cell? ⟨w.heap.size, 6, none⟩ = some (.slice a3 n3 c3) := fun u hb => by
    rw [← e1, ← e2, ← e3]; exact ((HK.out.below hb hs0).cell 6).trans rfl
  have hK2 : ∀ u, Below w0.heap.size w0 u → u.cell? ⟨w.heap.size, 2, none⟩ = some (.int .i64 s.keep) := fun u hb => ((HK.out.below hb hs0).cell 2).trans rfl
  have HK6 := Lib.hid hK6
  have HK2 := Lib.hid hK2
  have HSZ := Lib.hid hs0
  obtain ⟨c0, c1, c2, c3', c4, c5, c6⟩ := hc
  unfold I64 at hx
  clear h hw0 hk0 e1 e2 e3 c0 c1 c3' c4 c5 c2 hK6 hK2 hs0
  unfold stagg stblk
  by_cases hin : 0 ≤ a ∧ a < n3
  · obtain ⟨k, rfl⟩ : ∃ k : Nat, a = (k : Int) := ⟨a.toNat, by omega⟩
    have hk : k < n3 := by omega
    have hI := Lib.hid (show inR (k : Int) 0 ((n3 : Int) - 1) = true by unfold inR; rw [decide_eq_true (by omega), decide_eq_true (by omega)]; rfl)
    obtain ⟨ad, x, t, rfl, hab, hx', _, g0, g1, g2, g3, g4, _, _, _⟩ := rds_get HR.out hk
    have HV := Lib.hid (keptS_some hx')
    have hsl : ∀ u : World, (Instr.sliceAt 24 (.slice (some ad) n3 c3) (some (.int .i64 ((k : Int) + 1))) none none).run Try.prog u = .ok (.slice (cutAt (some ad) c3 5 (k + 1)) (n3 - (k + 1)) (c3 - (k + 1))) u :=
      run_from (P := Try.prog) 24 38 i0 5 Try.underlying24 hi hz1 (some ad) n3 c3 (k + 1) .i64 (by omega)
    have HD := Lib.hid (HR.out.from_ sn_len (show k + 1 ≤ n3 by omega) q0)
    have HLD := Lib.hid HD.out.1
    obtain ⟨M, hM⟩ : ∃ M, n3 - (k + 1) = M := ⟨_, rfl⟩
    rw [hM] at hsl HD
    have HM := Lib.hid hM
    have hMn : M ≤ n3 := by omega
    generalize cutAt (some ad) c3 5 (k + 1) = A2 at *
    generalize c3 - (k + 1) = C2 at *
    have b1 : (k : Int) < (n3 : Int) := by omega
    have b0 : ¬ ((k : Int) < 0) := by omega
    have b2 : ¬ ((n3 : Int) ≤ (k : Int)) := by omega
    have hcell : ∀ u, Below w0.heap.size w0 u → u.cell? ⟨(ad.add (k * 5)).block, (ad.add (k * 5)).off + 1, none⟩ = some (.int .i64 x.set) := fun u hb => (Below.cell hb (p := ⟨(ad.add (k * 5)).block, (ad.add (k * 5)).off + 1, none⟩) (by rw [add_block]; exact hab)).trans g1
    have HG1 := Lib.hid hcell
    clear hx' g0 g1 g2 g3 g4 hin hM hcell
    go_enter Try.func22, Try.ntmps22
    go_upto_region 1 with fail
    rw [show (w.alloc (.cells #[.int .i64 s.version, .int .i64 s.next, .int .i64 s.keep, .int .i64 s.quota, .slice p.a1 p.n1 p.c1, .slice p.a2 p.n2 p.c2, .slice p.a3 p.n3 p.c3] 26)) = w0 from HW.out.symm]
    go_wp2_with fail
    refine (within_e hI.out _).mono ?_
    rintro _ _ ⟨rfl, rfl⟩
    go_wp2
    go_loopw [5, 21] (fun m i wr => ∃ (j mm : Nat), j ≤ M ∧ i = .int .i64 (j : Int) ∧ m = .int .i64 (mm : Int) ∧ mm ≤ j ∧ setTo s.snaps k (k + 1 + j) x.set = mm ∧ Below w0.heap.size w0 wr) (fun _ i _ => M - (intOf i).toNat)
    case atStart => exact ⟨0, 0, Nat.zero_le _, rfl, rfl, Nat.le_refl _, setTo_zero _ _ _, Below.refl _ _⟩
    case round =>
      obtain ⟨j, mm, hj, rfl, rfl, hmm, hcn, hb⟩ := hrel
      have HC := Lib.hid hcn
      have hsz := hb.size
      clear hcn c6
      by_cases hlt : j < M
      · obtain ⟨ad', y, t', rfl, hab', hy, _, k0, k1, k2, k3, k4, _, _, _⟩ := rds_get (HD.out.below hb) hlt
        rw [List.getElem?_drop] at hy
        have hst := setTo_step hy (show k + 1 ≤ k + 1 + j by omega) x.set
        rw [HC.out] at hst
        obtain ⟨D, hD⟩ : ∃ D, (y.set == x.set) = D := ⟨_, rfl⟩
        rw [hD] at hst
        have HS := Lib.hid hst
        obtain ⟨w1, hw1⟩ : ∃ w1 : World, w1 = wr.alloc (.cells #[.int .i64 y.id, .int .i64 y.set, .slice t'.1 y.chunks.length t'.2, .bool y.held, .string (strOf y.tag)] 38) := ⟨_, rfl⟩
        have hkb : Blk w1 wr.heap.size 38 #[.int .i64 y.id, .int .i64 y.set, .slice t'.1 y.chunks.length t'.2, .bool y.held, .string (strOf y.tag)] := by rw [hw1]; exact Blk.new _ _ _
        have hb1 : Below w0.heap.size w0 w1 := by rw [hw1]; exact hb.alloc hsz _
        have r1 : w1.cell? ⟨wr.heap.size, 1, none⟩ = some (.int .i64 y.set) := (hkb.cell 1).trans rfl
        have r6 := HK6.out w1 hb1
        have rx := HG1.out w1 hb1
        have HW1 := Lib.hid hw1
        clear hy hst hkb hw1
        go_upto_region 7 with fail
        rw [show wr.alloc (.cells #[.int .i64 y.id, .int .i64 y.set, .slice t'.1 y.chunks.length t'.2, .bool y.held, .string (strOf y.tag)] 38) = w1 from HW1.out.symm]
        clear k0 k1 k2 k3 k4
        go_quiet (fail)
        cases D with
        | true =>
          go_wp2
          go_roundw
          case rel => exact ⟨j + 1, mm + 1, by omega, by go_num, by go_num, by omega, HS.out, bel_drew' hb1 _⟩
          case measure => simp [intOf]; omega
        | false =>
          go_wp2
          go_roundw
          case rel => exact ⟨j + 1, mm, by omega, by go_num, rfl, by omega, HS.out, bel_drew' hb1 _⟩
          case measure => simp [intOf]; omega
      · obtain rfl : j = M := by omega
        have hal := setTo_all (l := s.snaps) (k := k) (j := k + 1 + j) (by have := HL.out; have := HM.out; omega) x.set
        rw [HC.out] at hal
        have HA := Lib.hid hal
        clear hal
        have r2 := HK2.out wr hb
        obtain ⟨D, hD⟩ : ∃ D, decide ((mm : Int) < s.keep) = D := ⟨_, rfl⟩
        have HD' := Lib.hid hD
        go_wp2
        go_ret
        exact ⟨by rw [HV.out, ← HA.out, HD'.out]; rfl, hb0.trans (hb.mono hb0.size)⟩
  · have HV := Lib.hid (keptS_none (s := s) (a := a) (by rw [HL.out]; omega))
    have hI := Lib.hid (show inR a 0 ((n3 : Int) - 1) = false by
      unfold inR
      rw [Bool.and_eq_false_iff, decide_eq_false_iff_not, decide_eq_false_iff_not]; omega)
    have b3 : n3 ≤ 9223372036854775807 := by omega
    clear hin
    go_enter Try.func22, Try.ntmps22
    go_upto_region 1 with fail
    rw [show (w.alloc (.cells #[.int .i64 s.version, .int .i64 s.next, .int .i64 s.keep, .int .i64 s.quota, .slice p.a1 p.n1 p.c1, .slice p.a2 p.n2 p.c2, .slice p.a3 p.n3 p.c3] 26)) = w0 from HW.out.symm]
    go_wp2_with fail
    refine (within_e hI.out _).mono ?_
    rintro _ _ ⟨rfl, rfl⟩
    go_wp2
    go_ret
    exact ⟨by rw [HV.out]; rfl, hb0⟩
end Go.Proofs.Ytdkjdiamekfbdaa
