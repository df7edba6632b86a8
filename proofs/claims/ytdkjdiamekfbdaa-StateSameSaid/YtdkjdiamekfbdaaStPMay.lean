/-
  The walks of the landed state.May.
-/
import Derived.Test.YtdkjdiamekfbdaaStPSm
import Derived.Test.YtdkjdiamekfbdaaStCopy
namespace Go.Proofs.Ytdkjdiamekfbdaa
open Go.RowKit
open Rf (Snp)
open Cm (inR row chunksB)
open St (Ses Opn Sta riseK sesAll opnAll snpAll mostText mostQuota numS sesS opnS snpS mayS may_parts)

set_option maxHeartbeats 1000000 in
set_option maxRecDepth 100000 in
theorem maySnaps_c (s : Sta) (p : Pls) (v : Int) (w : World) (h : RdT w w.heap.size s p) (hx1 : 1 ≤ s.next) (hx2 : s.next ≤ 1048576) :
    Calls Try.prog 36 #[stagg s p, .int .i64 v] w fun e w' => e = .returned (.bool (snpS s v)) ∧ Below w.heap.size w w' := by
  have hmf : ∀ (fn : Fn) (first cap : Array Value) (w : World), (Instr.makeFunc fn first cap).run Try.prog w = .ok (.func fn first cap) w := fun _ _ _ _ => rfl
  have hN : snpS s v = (decide (s.snaps.length ≤ 16) && (riseK Snp.id (IntKind.i64.wrap (s.next - 1)) 0 s.snaps && s.snaps.all (snpAll v))) := rfl
  rw [show IntKind.i64.wrap (s.next - 1) = s.next - 1 by rw [IntKind.wrap_i64]; omega] at hN
  obtain ⟨N, hNN⟩ : ∃ N, snpS s v = N := ⟨_, rfl⟩
  rw [hNN] at hN ⊢
  clear hNN
  obtain ⟨W0, hW0⟩ : ∃ W0 : World, W0 = (w.alloc (.cells (stblk s p) 26)).alloc (.cells #[.int .i64 v] 3) := ⟨_, rfl⟩
  have hbW : Below w.heap.size w W0 := by rw [hW0]; exact ((Below.refl _ _).alloc (Nat.le_refl _) _).alloc (by simp) _
  have hsW : W0.heap.size = w.heap.size + 2 := by rw [hW0]; simp
  have hkS : Blk W0 w.heap.size 26 (stblk s p) := by rw [hW0]; exact (Blk.new _ _ _).alloc _
  have hkV : Blk W0 (w.heap.size + 1) 3 #[.int .i64 v] := by rw [hW0]; simpa using Blk.new (w.alloc (.cells (stblk s p) 26)) #[.int .i64 v] 3
  obtain ⟨B1, hB1⟩ : ∃ B, riseK Snp.id (s.next - 1) 0 s.snaps = B := ⟨_, rfl⟩
  obtain ⟨B2, hB2⟩ : ∃ B, s.snaps.all (snpAll v) = B := ⟨_, rfl⟩
  rw [hB1, hB2] at hN
  have HN := Lib.hid hN
  have hl3 := h.snaps.1
  rw [hl3] at HN
  have H1 := Lib.hid (fun (u : World) (hb : Below w.heap.size w u) => (rise_sn p.a3 p.n3 p.c3 s.snaps p.S (s.next - 1) u (by have := h.k3; omega) ((h.snaps.below hb).more hb.size)).mono fun e u' hh => (show e = .returned (.bool B1) ∧ Below u.heap.size u u' from ⟨by rw [hh.1, hB1], hh.2⟩))
  have H2 := Lib.hid (fun (u : World) (hb : Below w.heap.size w u) (hg : Blk u (w.heap.size + 1) 3 #[.int .i64 v]) (hh : Blk u (w.heap.size + 2) 3 #[.int .i64 (mostText v)]) =>
    (all_sn p.a3 p.n3 p.c3 s.snaps p.S 59 #[.pointer (some ⟨w.heap.size + 1, 0, none⟩), .pointer (some ⟨w.heap.size + 2, 0, none⟩)] (snpAll v) u (by have := h.k3; omega) ((h.snaps.below hb).more hb.size) (fun _ _ => rfl)
      (fun x t wr hx hbr hr => snaps_cl (w.heap.size + 1) (w.heap.size + 2) v x t wr (hg.below hbr hg.lt) (hh.below hbr hh.lt) hr)).mono fun e u' hh => (show e = .returned (.bool B2) ∧ Below u.heap.size u u' from ⟨by rw [hh.1, hB2], hh.2⟩))
  obtain ⟨W1, hW1⟩ : ∃ W1 : World, W1 = W0.alloc (.cells #[.int .i64 0] 3) := ⟨_, rfl⟩
  have hbW1 : Below w.heap.size w W1 := by rw [hW1]; exact hbW.alloc hbW.size _
  have hkS1 : Blk W1 w.heap.size 26 (stblk s p) := by rw [hW1]; exact hkS.alloc _
  have hkV1 : Blk W1 (w.heap.size + 1) 3 #[.int .i64 v] := by rw [hW1]; exact hkV.alloc _
  have hkM1 : Blk W1 (w.heap.size + 2) 3 #[.int .i64 0] := by rw [hW1, ← hsW]; exact Blk.new _ _ _
  have HW := Lib.hid hW0
  have HW1 := Lib.hid hW1
  have HSZ := Lib.hid hsW
  have c1 : W1.cell? ⟨w.heap.size + 1, 0, none⟩ = some (.int .i64 v) := (hkV1.cell 0).trans rfl
  obtain ⟨q3, q3'⟩ := h.k3
  have hbW2 := hbW1.size
  unfold stblk at hkS1
  by_cases h3 : 3 ≤ v
  · have hm : mostText v = 16 := by unfold mostText; rw [if_pos h3]
    rw [hm] at H2
    obtain ⟨W2, hW2⟩ : ∃ W2 : World, W2 = W1.setCell ⟨w.heap.size + 2, 0, none⟩ (.int .i64 16) := ⟨_, rfl⟩
    have hgr : W1.grownBy W2 (some (w.heap.size + 2)) := by rw [hW2]; exact grown_one _ _ _ _
    have hbX : Below w.heap.size w W2 := hbW1.grown hgr hbW2 (fun k hk => by injection hk with hk; omega)
    have hkS2 : Blk W2 w.heap.size 26 #[.int .i64 s.version, .int .i64 s.next, .int .i64 s.keep, .int .i64 s.quota, .slice p.a1 p.n1 p.c1, .slice p.a2 p.n2 p.c2, .slice p.a3 p.n3 p.c3] := blk_kept hkS1 hgr (fun e => by injection e with e; omega)
    have hkV2 : Blk W2 (w.heap.size + 1) 3 #[.int .i64 v] := blk_kept hkV1 hgr (fun e => by injection e with e; omega)
    have hkM2 : Blk W2 (w.heap.size + 2) 3 #[.int .i64 16] := by rw [hW2]; simpa using hkM1.put 0 (.int .i64 16)
    have z0 := hkM1.frozen 0
    have z1 : W1.cell? ⟨w.heap.size + 2, 0, none⟩ = some (.int .i64 0) := (hkM1.cell 0).trans rfl
    have HW2 := Lib.hid hW2
    have HX1 := Lib.hid (H1.out W2 hbX)
    have HX2 := Lib.hid (fun (u : World) (hb : Below W2.heap.size W2 u) => H2.out u (hbX.trans (hb.mono hbX.size)) (hkV2.below hb hkV2.lt) (hkM2.below hb hkM2.lt))
    have HS := Lib.hid hkS2
    have y1 : W2.cell? ⟨w.heap.size, 1, none⟩ = some (.int .i64 s.next) := (hkS2.cell 1).trans rfl
    have y6 : W2.cell? ⟨w.heap.size, 6, none⟩ = some (.slice p.a3 p.n3 p.c3) := (hkS2.cell 6).trans rfl
    clear h hN hW0 hkS hkV hB1 hB2 hl3 hsW hW1 hkS1 hkV1 hkM1 H1 H2 hm hkS2 hkV2 hkM2 hgr hW2
    unfold stagg stblk
    go_enter Try.func36, Try.ntmps36
    go_upto_region 1 with fail
    rw [show (w.alloc (.cells #[.int .i64 s.version, .int .i64 s.next, .int .i64 s.keep, .int .i64 s.quota, .slice p.a1 p.n1 p.c1, .slice p.a2 p.n2 p.c2, .slice p.a3 p.n3 p.c3] 26)).alloc (.cells #[.int .i64 v] 3) = W0 from HW.out.symm]
    go_upto_region 2 with fail
    rw [show W0.alloc (.cells #[.int .i64 0] 3) = W1 from HW1.out.symm, HSZ.out]
    go_upto_region 4 with fail
    rw [show W1.setCell ⟨w.heap.size + 2, 0, none⟩ (.int .i64 16) = W2 from HW2.out.symm]
    clear c1 z0 z1
    by_cases h16 : p.n3 ≤ 16
    · have h16' : decide ((p.n3 : Int) ≤ 16) = true := decide_eq_true (by omega)
      have hN : N = (B1 && B2) := by rw [HN.out, decide_eq_true h16]; rfl
      have HN2 := Lib.hid hN
      clear hN h16
      go_wp2_with fail
      refine HX1.out.mono ?_
      rintro _ w3 ⟨rfl, hb3⟩
      have hb4 := hbX.trans (hb3.mono hbX.size)
      cases B1 with
      | false =>
        obtain rfl : N = false := by rw [HN2.out]; rfl
        go_wp2
        go_ret
        exact ⟨rfl, hb4⟩
      | true =>
        obtain rfl : N = B2 := by rw [HN2.out]; rfl
        have HX3 := Lib.hid (HX2.out w3 hb3)
        have z6 : w3.cell? ⟨w.heap.size, 6, none⟩ = some (.slice p.a3 p.n3 p.c3) := ((HS.out.below hb3 HS.out.lt).cell 6).trans rfl
        clear HX2 HX1 y1 y6
        go_wp2_with fail
        refine HX3.out.mono ?_
        rintro _ w4 ⟨rfl, hb5⟩
        have hb6 := hb4.trans (hb5.mono hb4.size)
        go_wp2
        go_ret
        exact ⟨rfl, hb6⟩
    · have h16' : decide ((p.n3 : Int) ≤ 16) = false := decide_eq_false (by omega)
      obtain rfl : N = false := by rw [HN.out, decide_eq_false h16]; rfl
      clear h16
      go_wp2
      go_ret
      exact ⟨rfl, hbX⟩
  · have hm : mostText v = 0 := by unfold mostText; rw [if_neg h3]
    rw [hm] at H2
    have hbX := hbW1
    have hkS2 := hkS1
    have hkV2 := hkV1
    have hkM2 := hkM1
    have HX1 := Lib.hid (H1.out W1 hbX)
    have HX2 := Lib.hid (fun (u : World) (hb : Below W1.heap.size W1 u) => H2.out u (hbX.trans (hb.mono hbX.size)) (hkV2.below hb hkV2.lt) (hkM2.below hb hkM2.lt))
    have HS := Lib.hid hkS2
    have y1 : W1.cell? ⟨w.heap.size, 1, none⟩ = some (.int .i64 s.next) := (hkS2.cell 1).trans rfl
    have y6 : W1.cell? ⟨w.heap.size, 6, none⟩ = some (.slice p.a3 p.n3 p.c3) := (hkS2.cell 6).trans rfl
    clear h hN hW0 hkS hkV hB1 hB2 hl3 hsW hW1 hkS1 hkV1 hkM1 H1 H2 hm hkS2 hkV2 hkM2
    unfold stagg stblk
    go_enter Try.func36, Try.ntmps36
    go_upto_region 1 with fail
    rw [show (w.alloc (.cells #[.int .i64 s.version, .int .i64 s.next, .int .i64 s.keep, .int .i64 s.quota, .slice p.a1 p.n1 p.c1, .slice p.a2 p.n2 p.c2, .slice p.a3 p.n3 p.c3] 26)).alloc (.cells #[.int .i64 v] 3) = W0 from HW.out.symm]
    go_upto_region 2 with fail
    rw [show W0.alloc (.cells #[.int .i64 0] 3) = W1 from HW1.out.symm, HSZ.out]
    go_upto_region 4 with fail
    by_cases h16 : p.n3 ≤ 16
    · have h16' : decide ((p.n3 : Int) ≤ 16) = true := decide_eq_true (by omega)
      have hN : N = (B1 && B2) := by rw [HN.out, decide_eq_true h16]; rfl
      have HN2 := Lib.hid hN
      clear hN h16
      go_wp2_with fail
      refine HX1.out.mono ?_
      rintro _ w3 ⟨rfl, hb3⟩
      have hb4 := hbX.trans (hb3.mono hbX.size)
      cases B1 with
      | false =>
        obtain rfl : N = false := by rw [HN2.out]; rfl
        go_wp2
        go_ret
        exact ⟨rfl, hb4⟩
      | true =>
        obtain rfl : N = B2 := by rw [HN2.out]; rfl
        have HX3 := Lib.hid (HX2.out w3 hb3)
        have z6 : w3.cell? ⟨w.heap.size, 6, none⟩ = some (.slice p.a3 p.n3 p.c3) := ((HS.out.below hb3 HS.out.lt).cell 6).trans rfl
        clear HX2 HX1 y1 y6 c1
        go_wp2_with fail
        refine HX3.out.mono ?_
        rintro _ w4 ⟨rfl, hb5⟩
        have hb6 := hb4.trans (hb5.mono hb4.size)
        go_wp2
        go_ret
        exact ⟨rfl, hb6⟩
    · have h16' : decide ((p.n3 : Int) ≤ 16) = false := decide_eq_false (by omega)
      obtain rfl : N = false := by rw [HN.out, decide_eq_false h16]; rfl
      clear h16
      go_wp2
      go_ret
      exact ⟨rfl, hbX⟩

theorem nums_next {s : Sta} {v : Int} (h : numS s v = true) : 1 ≤ s.next ∧ s.next ≤ 1048576 := by
  unfold numS inR at h
  simp only [Bool.and_eq_true, decide_eq_true_eq] at h
  exact h.2.1

set_option maxHeartbeats 1000000 in
set_option maxRecDepth 100000 in
theorem may_p (s : Sta) (p : Pls) (x : Int) (w : World) (h : RdT w w.heap.size s p) (_ht : Tok s) (_hsm : Small s) (_hx : I64 x) : Calls Try.prog 14 #[stagg s p, .int .i64 x] w fun e w' => e = .returned (.int .i64 (mayS s x : Nat)) ∧ Below w.heap.size w w' := by
  obtain ⟨w0, hw0, hk0, hb0, hs0⟩ := box_st w s p 26
  have HM := Lib.hid (may_parts s x)
  obtain ⟨M, hM⟩ : ∃ M, mayS s x = M := ⟨_, rfl⟩
  rw [hM] at HM
  rw [hM]
  clear hM
  obtain ⟨B0, H0⟩ := hidB (inR x 1 3)
  obtain ⟨B1, H1⟩ := hidB (numS s x)
  obtain ⟨B2, H2⟩ := hidB (sesS s.sess)
  obtain ⟨B3, H3⟩ := hidB (opnS s.opens)
  obtain ⟨B4, H4⟩ := hidB (snpS s x)
  have HX1 := Lib.hid (show ∀ u : World, Calls Try.prog 33 #[nagg s, .int .i64 x] u fun e w' => e = .returned (.bool B1) ∧ Below u.heap.size u w' by intro u; rw [← H1.out]; exact mayNumbers_c s x u)
  have HX0 := Lib.hid (fun u : World => numbersOf_c s p u)
  have HX2 := Lib.hid (show ∀ u : World, Below w.heap.size w u → Calls Try.prog 34 #[.slice p.a1 p.n1 p.c1] u fun e w' => e = .returned (.bool B2) ∧ Below u.heap.size u w' by intro u hb; rw [← H2.out]; exact maySess_c p.a1 p.n1 p.c1 s.sess u ((h.sess.below hb).more hb.size) (by have := h.k1; omega))
  have HX3 := Lib.hid (show ∀ u : World, Below w.heap.size w u → Calls Try.prog 35 #[.slice p.a2 p.n2 p.c2] u fun e w' => e = .returned (.bool B3) ∧ Below u.heap.size u w' by intro u hb; rw [← H3.out]; exact mayOpens_c p.a2 p.n2 p.c2 s.opens u ((h.opens.below hb).more hb.size) (by have := h.k2; omega))
  have HX4 := Lib.hid (show numS s x = true → ∀ u : World, Below w.heap.size w u → Calls Try.prog 36 #[stagg s p, .int .i64 x] u fun e w' => e = .returned (.bool B4) ∧ Below u.heap.size u w' by
    intro hn u hb
    have hx := (nums_next hn)
    rw [← H4.out]; exact maySnaps_c s p x u ((h.below hb).more hb.size) hx.1 hx.2)
  rw [H0.out, H1.out, H2.out, H3.out, H4.out] at HM
  rw [H1.out] at HX4
  have HW := Lib.hid hw0
  have HK := Lib.hid hk0
  clear h hw0 hk0
  have HL := Lib.hid hs0
  unfold stagg stblk at *
  go_enter Try.func14, Try.ntmps14
  go_upto_region 1 with fail
  rw [show w.alloc (.cells #[.int .i64 s.version, .int .i64 s.next, .int .i64 s.keep, .int .i64 s.quota, .slice p.a1 p.n1 p.c1, .slice p.a2 p.n2 p.c2, .slice p.a3 p.n3 p.c3] 26) = w0 from HW.out.symm]
  go_wp2_with fail
  refine (within_e H0.out _).mono ?_
  rintro _ _ ⟨rfl, rfl⟩
  cases B0 with
  | false =>
    obtain rfl : M = 1 := by rw [HM.out]; rfl
    go_wp2
    go_ret
    exact ⟨rfl, hb0⟩
  | true =>
    have y0 : w0.cell? ⟨w.heap.size, 0, none⟩ = some (.int .i64 s.version) := ((HK.out).cell 0).trans rfl
    have y1 : w0.cell? ⟨w.heap.size, 1, none⟩ = some (.int .i64 s.next) := ((HK.out).cell 1).trans rfl
    have y2 : w0.cell? ⟨w.heap.size, 2, none⟩ = some (.int .i64 s.keep) := ((HK.out).cell 2).trans rfl
    have y3 : w0.cell? ⟨w.heap.size, 3, none⟩ = some (.int .i64 s.quota) := ((HK.out).cell 3).trans rfl
    have y4 : w0.cell? ⟨w.heap.size, 4, none⟩ = some (.slice p.a1 p.n1 p.c1) := ((HK.out).cell 4).trans rfl
    have y5 : w0.cell? ⟨w.heap.size, 5, none⟩ = some (.slice p.a2 p.n2 p.c2) := ((HK.out).cell 5).trans rfl
    have y6 : w0.cell? ⟨w.heap.size, 6, none⟩ = some (.slice p.a3 p.n3 p.c3) := ((HK.out).cell 6).trans rfl
    go_wp2_with fail
    refine (HX0.out _).mono ?_
    rintro _ w1 ⟨rfl, hb1⟩
    have hB1 := hb0.trans (hb1.mono hb0.size)
    unfold nagg
    clear y0 y1 y2 y3 y4 y5 y6
    go_wp2_with fail
    refine (HX1.out _).mono ?_
    rintro _ w2 ⟨rfl, hb2⟩
    have hB2 := hB1.trans (hb2.mono hB1.size)
    have hK2 := (HK.out.below hb1 HK.out.lt).below hb2 (Nat.lt_of_lt_of_le HK.out.lt hb1.size)
    have HK2 := Lib.hid hK2
    clear hK2 HK HX0 HX1
    cases B1 with
    | false =>
      obtain rfl : M = 6 := by rw [HM.out]; rfl
      go_wp2
      go_ret
      exact ⟨rfl, hB2⟩
    | true =>
      have y4 : w2.cell? ⟨w.heap.size, 4, none⟩ = some (.slice p.a1 p.n1 p.c1) := ((HK2.out).cell 4).trans rfl
      have HC := Lib.hid (HX2.out w2 hB2)
      go_wp2_with fail
      refine HC.out.mono ?_
      rintro _ w3 ⟨rfl, hb3⟩
      clear HC
      have hB3 := hB2.trans (hb3.mono hB2.size)
      have HK3 := Lib.hid (HK2.out.below hb3 HK2.out.lt)
      clear y4 HK2
      cases B2 with
      | false =>
        obtain rfl : M = 6 := by rw [HM.out]; rfl
        go_wp2
        go_ret
        exact ⟨rfl, hB3⟩
      | true =>
        have y5 : w3.cell? ⟨w.heap.size, 5, none⟩ = some (.slice p.a2 p.n2 p.c2) := ((HK3.out).cell 5).trans rfl
        have HC := Lib.hid (HX3.out w3 hB3)
        go_wp2_with fail
        refine HC.out.mono ?_
        rintro _ w4 ⟨rfl, hb4⟩
        clear HC
        have hB4 := hB3.trans (hb4.mono hB3.size)
        have HK4 := Lib.hid (HK3.out.below hb4 HK3.out.lt)
        clear y5 HK3
        cases B3 with
        | false =>
          obtain rfl : M = 6 := by rw [HM.out]; rfl
          go_wp2
          go_ret
          exact ⟨rfl, hB4⟩
        | true =>
          have y0 : w4.cell? ⟨w.heap.size, 0, none⟩ = some (.int .i64 s.version) := ((HK4.out).cell 0).trans rfl
          have y1 : w4.cell? ⟨w.heap.size, 1, none⟩ = some (.int .i64 s.next) := ((HK4.out).cell 1).trans rfl
          have y2 : w4.cell? ⟨w.heap.size, 2, none⟩ = some (.int .i64 s.keep) := ((HK4.out).cell 2).trans rfl
          have y3 : w4.cell? ⟨w.heap.size, 3, none⟩ = some (.int .i64 s.quota) := ((HK4.out).cell 3).trans rfl
          have y4 : w4.cell? ⟨w.heap.size, 4, none⟩ = some (.slice p.a1 p.n1 p.c1) := ((HK4.out).cell 4).trans rfl
          have y5 : w4.cell? ⟨w.heap.size, 5, none⟩ = some (.slice p.a2 p.n2 p.c2) := ((HK4.out).cell 5).trans rfl
          have y6 : w4.cell? ⟨w.heap.size, 6, none⟩ = some (.slice p.a3 p.n3 p.c3) := ((HK4.out).cell 6).trans rfl
          have HC := Lib.hid (HX4.out trivial w4 hB4)
          go_wp2_with fail
          refine HC.out.mono ?_
          rintro _ w5 ⟨rfl, hb5⟩
          clear HC
          have hB5 := hB4.trans (hb5.mono hB4.size)
          have HK5 := Lib.hid (HK4.out.below hb5 HK4.out.lt)
          clear y0 y1 y2 y3 y4 y5 y6 HK4
          cases B4 with
          | false =>
            obtain rfl : M = 6 := by rw [HM.out]; rfl
            go_wp2
            go_ret
            exact ⟨rfl, hB5⟩
          | true =>
            obtain rfl : M = 0 := by rw [HM.out]; rfl
            go_wp2
            go_ret
            exact ⟨rfl, hB5⟩
end Go.Proofs.Ytdkjdiamekfbdaa
