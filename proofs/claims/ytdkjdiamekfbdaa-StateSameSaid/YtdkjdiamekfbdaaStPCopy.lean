/-
  The walk of the landed state.Copy.
-/
import Derived.Test.YtdkjdiamekfbdaaStPCopyP
import Derived.Test.YtdkjdiamekfbdaaClone
import Derived.Test.YtdkjdiamekfbdaaLive
namespace Go.Proofs.Ytdkjdiamekfbdaa
open Go.RowKit
open Rf (Snp)
open St (Ses Opn Sta)

theorem CcInv.rds {u wr : World} {s : Sta} {p : Pls} {v1 v2 : Value} {A3 : Option Addr} {q3 j : Nat} {S : List (Option Addr × Nat)} (h : CcInv u wr s p v1 v2 A3 q3 j S) (hr : RdT u u.heap.size s p) : RdS wr wr.heap.size A3 p.n3 s.snaps S := by
  refine ⟨hr.snaps.1, h.len, Rd.of_own h.snaps, fun k f t hf ht => ?_⟩
  have hl : (sninn f).length = f.chunks.length := ivs_len _
  rcases Nat.lt_or_ge k j with hk | hk
  · have hc := h.chunks k f t hk hf ht
    rw [hl]
    exact ⟨Rd.of_own hc, own_cap' hc⟩
  · rw [h.old k hk] at ht
    exact ((hr.snaps.below h.below).more h.below.size).2.2.2 k f t hf ht

set_option maxHeartbeats 4000000 in
set_option maxRecDepth 100000 in
theorem copy_p (s : Sta) (p : Pls) (u : World) (h : RdT u u.heap.size s p) (_ht : Tok s) (hsm : Small s) : Calls Try.prog 24 #[stagg s p] u (StOwn u s) := by
  have hn1 : p.n1 ≤ 100 := by rw [← h.sess.1]; exact hsm.k1
  have hn2 : p.n2 ≤ 100 := by rw [← h.opens.1]; exact hsm.k2
  have hn3 : p.n3 ≤ 100 := by rw [← h.snaps.1]; exact hsm.k3
  have HK4 := Lib.hid hsm.k4
  have HR := Lib.hid h
  have HL3 := Lib.hid h.snaps.1
  obtain ⟨u0, hu0⟩ : ∃ u0 : World, u0 = (u.alloc (.cells (stblk s p) 26)).alloc (.cells #[.int .i64 0, .int .i64 0, .int .i64 0, .int .i64 0, .slice none 0 0, .slice none 0 0, .slice none 0 0] 26) := ⟨_, rfl⟩
  have hb0 : Below u.heap.size u u0 := by rw [hu0]; exact ((Below.refl _ _).alloc (Nat.le_refl _) _).alloc (by simp) _
  have hs0 : u0.heap.size = u.heap.size + 2 := by rw [hu0]; simp
  have hbox : Blk u0 u.heap.size 26 #[.int .i64 s.version, .int .i64 s.next, .int .i64 s.keep, .int .i64 s.quota, .slice p.a1 p.n1 p.c1, .slice p.a2 p.n2 p.c2, .slice p.a3 p.n3 p.c3] := by rw [hu0]; exact (Blk.new _ _ _).alloc _
  have hres : Blk u0 (u.heap.size + 1) 26 #[.int .i64 0, .int .i64 0, .int .i64 0, .int .i64 0, .slice none 0 0, .slice none 0 0, .slice none 0 0] := by
    rw [hu0]
    simpa using Blk.new (u.alloc (.cells (stblk s p) 26)) #[.int .i64 0, .int .i64 0, .int .i64 0, .int .i64 0, .slice none 0 0, .slice none 0 0, .slice none 0 0] 26
  have HC1 := Lib.hid (clone_se p.a1 p.n1 p.c1 s.sess u0 ((h.sess.below hb0).more hb0.size) h.k1.1 h.k1.2 (by omega))
  have HC2 := Lib.hid (fun (w : World) (hb : Below u.heap.size u w) => clone_op p.a2 p.n2 p.c2 s.opens w ((h.opens.below hb).more hb.size) h.k2.1 h.k2.2 (by omega))
  have HC3 := Lib.hid (fun (w : World) (hb : Below u.heap.size u w) => clone_sn p.a3 p.n3 p.c3 s.snaps p.S w ((h.snaps.below hb).more hb.size) h.k3.1 h.k3.2 (by omega))
  have HU := Lib.hid hu0
  have x4 : u0.cell? ⟨u.heap.size, 4, none⟩ = some (.slice p.a1 p.n1 p.c1) := (hbox.cell 4).trans rfl
  have HBOX := Lib.hid hbox
  have HRES := Lib.hid hres
  have HS0 := Lib.hid hs0
  clear h hsm hu0 hbox hres hs0
  unfold stagg stblk
  go_enter Try.func24, Try.ntmps24
  go_upto_region 1 with fail
  rw [show (u.alloc (.cells #[.int .i64 s.version, .int .i64 s.next, .int .i64 s.keep, .int .i64 s.quota, .slice p.a1 p.n1 p.c1, .slice p.a2 p.n2 p.c2, .slice p.a3 p.n3 p.c3] 26)).alloc (.cells #[.int .i64 0, .int .i64 0, .int .i64 0, .int .i64 0, .slice none 0 0, .slice none 0 0, .slice none 0 0] 26) = u0 from HU.out.symm]
  go_wp2_with fail
  refine HC1.out.mono ?_
  rintro _ w1 ⟨_, rfl, o1, b1⟩
  obtain ⟨A1, q1, rfl, hA1, hq1⟩ := slice_of_own o1
  have box1 : Blk w1 u.heap.size 26 #[.int .i64 s.version, .int .i64 s.next, .int .i64 s.keep, .int .i64 s.quota, .slice p.a1 p.n1 p.c1, .slice p.a2 p.n2 p.c2, .slice p.a3 p.n3 p.c3] := HBOX.out.below b1 HBOX.out.lt
  have res1 : Blk w1 (u.heap.size + 1) 26 #[.int .i64 0, .int .i64 0, .int .i64 0, .int .i64 0, .slice none 0 0, .slice none 0 0, .slice none 0 0] := HRES.out.below b1 HRES.out.lt
  have bw1 := hb0.trans (b1.mono hb0.size)
  have on1 := own_down o1 hb0.size
  obtain ⟨w2, hw2⟩ : ∃ w2 : World, w2 = w1.setCell ⟨u.heap.size, 4, none⟩ (.slice A1 p.n1 q1) := ⟨_, rfl⟩
  have boxn1 : Blk w2 u.heap.size 26 #[.int .i64 s.version, .int .i64 s.next, .int .i64 s.keep, .int .i64 s.quota, .slice A1 p.n1 q1, .slice p.a2 p.n2 p.c2, .slice p.a3 p.n3 p.c3] := by rw [hw2]; simpa using box1.put 4 (.slice A1 p.n1 q1)
  have resn1 : Blk w2 (u.heap.size + 1) 26 #[.int .i64 0, .int .i64 0, .int .i64 0, .int .i64 0, .slice none 0 0, .slice none 0 0, .slice none 0 0] := by rw [hw2]; exact res1.far (by simp) _
  have bb1 : Below u.heap.size u w2 := by rw [hw2]; exact bw1.setCell (by simp) _
  have O1_1 := Lib.hid (show w2.ownsRow u.heap.size 42 4 (.slice A1 p.n1 q1) p.n1 (rowc secells s.sess) by rw [hw2]; exact own_away on1 (blk_apart box1 on1 (by decide)) _ _)
  have zz : w1.frozen? ⟨u.heap.size, 4, none⟩ = false := box1.frozen 4
  have zc : w1.cell? ⟨u.heap.size, 4, none⟩ = some (.slice p.a1 p.n1 p.c1) := (box1.cell 4).trans rfl
  have BOX1 := Lib.hid boxn1
  have RES1 := Lib.hid resn1
  have HW2 := Lib.hid hw2
  have xx : w2.cell? ⟨u.heap.size, 5, none⟩ = some (.slice p.a2 p.n2 p.c2) := (boxn1.cell 5).trans rfl
  clear o1 box1 res1 on1 hw2 boxn1 resn1 x4
  go_upto_region 2 with fail
  rw [← HW2.out]
  clear zz zc
  go_wp2_with fail
  refine (HC2.out w2 bb1).mono ?_
  rintro _ w3 ⟨_, rfl, o2, b2⟩
  obtain ⟨A2, q2, rfl, hA2, hq2⟩ := slice_of_own o2
  have box2 : Blk w3 u.heap.size 26 #[.int .i64 s.version, .int .i64 s.next, .int .i64 s.keep, .int .i64 s.quota, .slice A1 p.n1 q1, .slice p.a2 p.n2 p.c2, .slice p.a3 p.n3 p.c3] := BOX1.out.below b2 BOX1.out.lt
  have res2 : Blk w3 (u.heap.size + 1) 26 #[.int .i64 0, .int .i64 0, .int .i64 0, .int .i64 0, .slice none 0 0, .slice none 0 0, .slice none 0 0] := RES1.out.below b2 RES1.out.lt
  have bw2 := bb1.trans (b2.mono bb1.size)
  have on2 := own_down o2 bb1.size
  have on1 := own_below O1_1.out b2
  obtain ⟨w4, hw4⟩ : ∃ w4 : World, w4 = w3.setCell ⟨u.heap.size, 5, none⟩ (.slice A2 p.n2 q2) := ⟨_, rfl⟩
  have boxn2 : Blk w4 u.heap.size 26 #[.int .i64 s.version, .int .i64 s.next, .int .i64 s.keep, .int .i64 s.quota, .slice A1 p.n1 q1, .slice A2 p.n2 q2, .slice p.a3 p.n3 p.c3] := by rw [hw4]; simpa using box2.put 5 (.slice A2 p.n2 q2)
  have resn2 : Blk w4 (u.heap.size + 1) 26 #[.int .i64 0, .int .i64 0, .int .i64 0, .int .i64 0, .slice none 0 0, .slice none 0 0, .slice none 0 0] := by rw [hw4]; exact res2.far (by simp) _
  have bb2 : Below u.heap.size u w4 := by rw [hw4]; exact bw2.setCell (by simp) _
  have O1_2 := Lib.hid (show w4.ownsRow u.heap.size 42 4 (.slice A1 p.n1 q1) p.n1 (rowc secells s.sess) by rw [hw4]; exact own_away on1 (blk_apart box2 on1 (by decide)) _ _)
  have O2_2 := Lib.hid (show w4.ownsRow u.heap.size 44 2 (.slice A2 p.n2 q2) p.n2 (rowc opcells s.opens) by rw [hw4]; exact own_away on2 (blk_apart box2 on2 (by decide)) _ _)
  have zz : w3.frozen? ⟨u.heap.size, 5, none⟩ = false := box2.frozen 5
  have zc : w3.cell? ⟨u.heap.size, 5, none⟩ = some (.slice p.a2 p.n2 p.c2) := (box2.cell 5).trans rfl
  have BOX2 := Lib.hid boxn2
  have RES2 := Lib.hid resn2
  have HW4 := Lib.hid hw4
  have xx : w4.cell? ⟨u.heap.size, 6, none⟩ = some (.slice p.a3 p.n3 p.c3) := (boxn2.cell 6).trans rfl
  clear o2 box2 res2 on1 on2 hw4 boxn2 resn2
  go_upto_region 3 with fail
  rw [← HW4.out]
  clear zz zc
  go_wp2_with fail
  refine (HC3.out w4 bb2).mono ?_
  rintro _ w5 ⟨_, rfl, o3, b3⟩
  obtain ⟨A3, q3, rfl, hA3, hq3⟩ := slice_of_own o3
  have box3 : Blk w5 u.heap.size 26 #[.int .i64 s.version, .int .i64 s.next, .int .i64 s.keep, .int .i64 s.quota, .slice A1 p.n1 q1, .slice A2 p.n2 q2, .slice p.a3 p.n3 p.c3] := BOX2.out.below b3 BOX2.out.lt
  have res3 : Blk w5 (u.heap.size + 1) 26 #[.int .i64 0, .int .i64 0, .int .i64 0, .int .i64 0, .slice none 0 0, .slice none 0 0, .slice none 0 0] := RES2.out.below b3 RES2.out.lt
  have bw3 := bb2.trans (b3.mono bb2.size)
  have on3 := own_down o3 bb2.size
  have on1 := own_below O1_2.out b3
  have on2 := own_below O2_2.out b3
  obtain ⟨w6, hw6⟩ : ∃ w6 : World, w6 = w5.setCell ⟨u.heap.size, 6, none⟩ (.slice A3 p.n3 q3) := ⟨_, rfl⟩
  have boxn3 : Blk w6 u.heap.size 26 #[.int .i64 s.version, .int .i64 s.next, .int .i64 s.keep, .int .i64 s.quota, .slice A1 p.n1 q1, .slice A2 p.n2 q2, .slice A3 p.n3 q3] := by rw [hw6]; simpa using box3.put 6 (.slice A3 p.n3 q3)
  have resn3 : Blk w6 (u.heap.size + 1) 26 #[.int .i64 0, .int .i64 0, .int .i64 0, .int .i64 0, .slice none 0 0, .slice none 0 0, .slice none 0 0] := by rw [hw6]; exact res3.far (by simp) _
  have bb3 : Below u.heap.size u w6 := by rw [hw6]; exact bw3.setCell (by simp) _
  have O1_3 := Lib.hid (show w6.ownsRow u.heap.size 42 4 (.slice A1 p.n1 q1) p.n1 (rowc secells s.sess) by rw [hw6]; exact own_away on1 (blk_apart box3 on1 (by decide)) _ _)
  have O2_3 := Lib.hid (show w6.ownsRow u.heap.size 44 2 (.slice A2 p.n2 q2) p.n2 (rowc opcells s.opens) by rw [hw6]; exact own_away on2 (blk_apart box3 on2 (by decide)) _ _)
  have O3_3 := Lib.hid (show w6.ownsRow u.heap.size 38 5 (.slice A3 p.n3 q3) p.n3 (pcells sncells s.snaps p.S) by rw [hw6]; exact own_away on3 (blk_apart box3 on3 (by decide)) _ _)
  have zz : w5.frozen? ⟨u.heap.size, 6, none⟩ = false := box3.frozen 6
  have zc : w5.cell? ⟨u.heap.size, 6, none⟩ = some (.slice p.a3 p.n3 p.c3) := (box3.cell 6).trans rfl
  have BOX3 := Lib.hid boxn3
  have RES3 := Lib.hid resn3
  have HW6 := Lib.hid hw6
  have xx : w6.cell? ⟨u.heap.size, 6, none⟩ = some (.slice A3 p.n3 q3) := (boxn3.cell 6).trans rfl
  clear o3 box3 res3 on1 on2 on3 hw6 boxn3 resn3
  go_upto_region 4 with fail
  rw [← HW6.out]
  clear zz zc
  have HINV := Lib.hid (show CcInv u w6 s p (.slice A1 p.n1 q1) (.slice A2 p.n2 q2) A3 q3 0 p.S from ⟨BOX3.out, RES3.out, O1_3.out, O2_3.out, O3_3.out, HR.out.snaps.2.1, fun _ _ => rfl, fun k f t hk => absurd hk (Nat.not_lt_zero _), bb3⟩)
  clear O1_1 O1_2 O1_3 O2_2 O2_3 O3_3 BOX1 BOX2 BOX3 RES1 RES2 RES3 HC1 HC2 HC3 HBOX HRES
  go_wp2
  go_loopw [20] (fun i wr => ∃ (j : Nat) (S : List (Option Addr × Nat)), j ≤ p.n3 ∧ i = .int .i64 (j : Int) ∧ CcInv u wr s p (.slice A1 p.n1 q1) (.slice A2 p.n2 q2) A3 q3 j S) (fun i _ => p.n3 - (intOf i).toNat)
  case atStart => exact ⟨0, _, Nat.zero_le _, rfl, HINV.out⟩
  case round =>
    clear xx
    obtain ⟨j, S, hj, rfl, hcp⟩ := hrel
    have HC := Lib.hid hcp
    have hb := hcp.below
    have hsz := hb.size
    by_cases hlt : j < p.n3
    · obtain ⟨ad, x, t0, rfl, hab, hx, _, g0, g1, g2, g3, g4, hrd, hs1, hs2⟩ := rds_get (hcp.rds HR.out) hlt
      obtain ⟨g, hg⟩ : ∃ g, ad = ⟨g, 0, none⟩ := by
        rcases hcp.snaps.2 with ⟨h', _⟩ | ⟨g, cap, cur, h', _⟩
        · simp at h'
        · simp only [Value.slice.injEq, Option.some.injEq] at h'
          exact ⟨g, h'.1⟩
      have HX := Lib.hid hx
      have HG := Lib.hid hg
      have hch : x.chunks.length ≤ 100 := HK4.out x (List.mem_of_getElem? hx)
      obtain ⟨w1, hw1⟩ : ∃ w1 : World, w1 = wr.alloc (.cells #[.int .i64 x.id, .int .i64 x.set, .slice t0.1 x.chunks.length t0.2, .bool x.held, .string (strOf x.tag)] 38) := ⟨_, rfl⟩
      have hb1 : Below wr.heap.size wr w1 := by rw [hw1]; exact (Below.refl _ _).alloc (Nat.le_refl _) _
      have hs01 : w1.heap.size = wr.heap.size + 1 := by rw [hw1]; simp
      have hkb : Blk w1 wr.heap.size 38 #[.int .i64 x.id, .int .i64 x.set, .slice t0.1 x.chunks.length t0.2, .bool x.held, .string (strOf x.tag)] := by rw [hw1]; exact Blk.new _ _ _
      have HY2 := Lib.hid (show ∀ w, Grew w1 w → w.cell? ⟨wr.heap.size, 2, none⟩ = some (.slice t0.1 x.chunks.length t0.2) from fun w hC => ((hkb.below hC hkb.lt).cell 2).trans rfl)
      have hkx := hcp.box.below hb1 hcp.box.lt
      have HY6 := Lib.hid (show ∀ w, Grew w1 w → w.cell? ⟨u.heap.size, 6, none⟩ = some (.slice (some ad) p.n3 q3) from fun w hC => ((hkx.below hC hkx.lt).cell 6).trans rfl)
      have hrd1 := (hrd.below hb1).more (show wr.heap.size ≤ w1.heap.size by omega)
      have HCL := Lib.hid (fun (w : World) (hC : Grew w1 w) => clone_ints t0.1 x.chunks.length t0.2 x.chunks w ((Rd.below hrd1 hC).more hC.size) hs1 hs2 (by omega))
      have HW1 := Lib.hid hw1
      have HS01 := Lib.hid hs01
      have f2 : ¬ p.n3 ≤ j := by omega
      have HF := Lib.hid f2
      clear hcp hx hg hkb hkx hrd hrd1 hw1 hs01 f2
      go_upto_region 7 with fail
      rw [show wr.alloc (.cells #[.int .i64 x.id, .int .i64 x.set, .slice t0.1 x.chunks.length t0.2, .bool x.held, .string (strOf x.tag)] 38) = w1 from HW1.out.symm]
      clear g0 g1 g2 g3 g4
      refine wp_region_live2 (n := 35) (C := Grew w1) (Γ := Said4 30 (fun v w => ∃ t : Option Addr × Nat, v = .slice t.1 x.chunks.length t.2 ∧ w.ownsRow w1.heap.size 3 1 (.slice t.1 x.chunks.length t.2) x.chunks.length (ivs x.chunks)) (fun t v _ => v = pickV [(25, .pointer (some ⟨u.heap.size, 6, none⟩)), (26, .slice (some ad) p.n3 q3), (27, .int .i64 (j : Int)), (28, .pointer (some ⟨wr.heap.size, 2, none⟩)), (29, .slice t0.1 x.chunks.length t0.2), (31, .pointer (some (ad.add (j * 5)))), (32, .pointer (some ⟨(ad.add (j * 5)).block, (ad.add (j * 5)).off + 2, none⟩))] t)) rfl (by kernel_rfl) (by kernel_rfl) (by kernel_rfl) rfl ⟨rfl, rfl, rfl, Nat.le_refl _, fun _ _ => rfl⟩ ⟨?_, ?_, ?_, ?_, ?_, ?_, ?_, ?_, trivial⟩ ?_
      · refine owedl_val (.pointer (some ⟨u.heap.size, 6, none⟩)) rfl rfl (fun _ => said4_on (by decide) rfl) fun fr w hC hK => ?_
        have k1 : slot fr 1 = .pointer (some ⟨u.heap.size, 0, none⟩) := (known_out hK 1 (by kernel_rfl)).trans rfl
        clear hK
        unfold slot at k1
        go_simp
      · refine owedl_val (.slice (some ad) p.n3 q3) rfl rfl (fun _ => said4_on (by decide) rfl) fun fr w hC hK => ?_
        have k25 : slot fr 25 = .pointer (some ⟨u.heap.size, 6, none⟩) := (said4_off (by decide) (known_in hK 25 (by kernel_rfl))).trans rfl
        clear hK
        unfold slot at k25
        have x0 := HY6.out w hC
        go_simp
      · refine owedl_val (.int .i64 (j : Int)) rfl rfl (fun _ => said4_on (by decide) rfl) fun fr w hC hK => ?_
        have k3 : slot fr 3 = .int .i64 (j : Int) := (known_out hK 3 (by kernel_rfl)).trans rfl
        clear hK
        unfold slot at k3
        go_simp
      · refine owedl_val (.pointer (some ⟨wr.heap.size, 2, none⟩)) rfl rfl (fun _ => said4_on (by decide) rfl) fun fr w hC hK => ?_
        have k4 : slot fr 4 = .pointer (some ⟨wr.heap.size, 0, none⟩) := (known_out hK 4 (by kernel_rfl)).trans rfl
        clear hK
        unfold slot at k4
        go_simp
      · refine owedl_val (.slice t0.1 x.chunks.length t0.2) rfl rfl (fun _ => said4_on (by decide) rfl) fun fr w hC hK => ?_
        have k28 : slot fr 28 = .pointer (some ⟨wr.heap.size, 2, none⟩) := (said4_off (by decide) (known_in hK 28 (by kernel_rfl))).trans rfl
        clear hK
        unfold slot at k28
        have x0 := HY2.out w hC
        go_simp
      · refine owedl_of rfl rfl fun fr w hC hK K hk => ?_
        have k29 : slot fr 29 = .slice t0.1 x.chunks.length t0.2 := (said4_off (by decide) (known_in hK 29 (by kernel_rfl))).trans rfl
        clear hK
        unfold slot at k29
        go_simp
        refine (HCL.out w hC).mono ?_
        rintro e w2 ⟨v2, rfl, hown, hb2⟩
        obtain ⟨A2, q2, rfl, _, _⟩ := slice_of_own hown
        exact hk _ _ (Grew.trans hC hb2) (said4_kept (fun h => not_lives (by kernel_rfl) h) (fun _ _ _ h => h)) (said4_at ⟨(A2, q2), rfl, own_down hown hC.size⟩)
      · refine owedl_val (.pointer (some (ad.add (j * 5)))) rfl rfl (fun _ => said4_on (by decide) rfl) fun fr w hC hK => ?_
        have k26 : slot fr 26 = .slice (some ad) p.n3 q3 := (said4_off (by decide) (known_in hK 26 (by kernel_rfl))).trans rfl
        have k27 : slot fr 27 = .int .i64 (j : Int) := (said4_off (by decide) (known_in hK 27 (by kernel_rfl))).trans rfl
        clear hK
        unfold slot at k26 k27
        have f2 := HF.out
        go_simp
      · refine owedl_val (.pointer (some ⟨(ad.add (j * 5)).block, (ad.add (j * 5)).off + 2, none⟩)) rfl rfl (fun _ => said4_on (by decide) rfl) fun fr w hC hK => ?_
        have k31 : slot fr 31 = .pointer (some (ad.add (j * 5))) := (said4_off (by decide) (known_in hK 31 (by kernel_rfl))).trans rfl
        clear hK
        unfold slot at k31
        go_simp
      · intro vs w2 hC hg
        have v32 : vs 32 = .pointer (some ⟨(ad.add (j * 5)).block, (ad.add (j * 5)).off + 2, none⟩) := (said4_off (by decide) (hg 32 (by kernel_rfl))).trans rfl
        obtain ⟨t, v30, hown⟩ := un4_at (hg 30 (by kernel_rfl))
        clear hg
        have hbw : Below wr.heap.size wr w2 := hb1.trans (Below.mono hC hb1.size)
        have hae : (⟨(ad.add (j * 5)).block, (ad.add (j * 5)).off + 2, none⟩ : Addr) = ⟨g, j * 5 + 2, none⟩ := by rw [add_spell' _ _ _ (by omega), HG.out]; unfold Addr.add; rw [if_neg (by omega), Nat.zero_add]
        have hcp := HC.out
        rw [HG.out] at hcp
        obtain ⟨c, hc, hz⟩ := hcp.cell HX.out HL3.out hbw
        rw [← hae] at hc hz
        have HST := Lib.hid (hcp.step HX.out HL3.out hbw (own_down hown hb1.size))
        rw [← hae, ← HG.out] at HST
        clear hcp hown hae HC
        simp only [putsOf, List.dropLast]
        rw [v32, v30]
        go_simp
        clear v32 v30
        go_wp2
        go_roundw
        case rel => exact ⟨j + 1, _, by omega, by go_num, HST.out⟩
        case measure => simp [intOf]; omega
    · obtain rfl : j = p.n3 := by omega
      obtain ⟨c0, c1, c2, c3, c4, c5, c6⟩ : wr.cell? ⟨u.heap.size, 0, none⟩ = some (.int .i64 s.version) ∧ wr.cell? ⟨u.heap.size, 1, none⟩ = some (.int .i64 s.next) ∧ wr.cell? ⟨u.heap.size, 2, none⟩ = some (.int .i64 s.keep) ∧ wr.cell? ⟨u.heap.size, 3, none⟩ = some (.int .i64 s.quota) ∧
        wr.cell? ⟨u.heap.size, 4, none⟩ = some (.slice A1 p.n1 q1) ∧ wr.cell? ⟨u.heap.size, 5, none⟩ = some (.slice A2 p.n2 q2) ∧ wr.cell? ⟨u.heap.size, 6, none⟩ = some (.slice A3 p.n3 q3) := ⟨hcp.box.cell 0, hcp.box.cell 1, hcp.box.cell 2, hcp.box.cell 3, hcp.box.cell 4, hcp.box.cell 5, hcp.box.cell 6⟩
      obtain ⟨d0, d1, d2, d3, d4, d5, d6⟩ : wr.cell? ⟨u.heap.size + 1, 0, none⟩ = some (.int .i64 0) ∧ wr.cell? ⟨u.heap.size + 1, 1, none⟩ = some (.int .i64 0) ∧ wr.cell? ⟨u.heap.size + 1, 2, none⟩ = some (.int .i64 0) ∧ wr.cell? ⟨u.heap.size + 1, 3, none⟩ = some (.int .i64 0) ∧
        wr.cell? ⟨u.heap.size + 1, 4, none⟩ = some (.slice none 0 0) ∧ wr.cell? ⟨u.heap.size + 1, 5, none⟩ = some (.slice none 0 0) ∧ wr.cell? ⟨u.heap.size + 1, 6, none⟩ = some (.slice none 0 0) := ⟨hcp.res.cell 0, hcp.res.cell 1, hcp.res.cell 2, hcp.res.cell 3, hcp.res.cell 4, hcp.res.cell 5, hcp.res.cell 6⟩
      have z0 := hcp.res.frozen 0
      have z1 := hcp.res.frozen 1
      have z2 := hcp.res.frozen 2
      have z3 := hcp.res.frozen 3
      have z4 := hcp.res.frozen 4
      have z5 := hcp.res.frozen 5
      have z6 := hcp.res.frozen 6
      clear hcp
      go_wp2
      (try simp only [Exit.inBlock, Exit.then])
      have hcp := HC.out
      obtain ⟨h1, h2⟩ := blk_set7 hcp.res (.int .i64 s.version) (.int .i64 s.next) (.int .i64 s.keep) (.int .i64 s.quota) (.slice A1 p.n1 q1) (.slice A2 p.n2 q2) (.slice A3 p.n3 q3)
      refine bodyPost_ret (results_cell_row rfl _ _ (u.heap.size + 1) 26 _ (0, 0) _ rfl h1 Try.underlying26 rfl (by kernel_rfl)) rfl ?_
      refine ⟨⟨A1, p.n1, q1, A2, p.n2, q2, A3, p.n3, q3, S⟩, rfl, ⟨?_, ?_, ?_, HR.out.sess.1, HR.out.opens.1, HR.out.snaps.1, hcp.len, fun k f t hf ht => ?_⟩, hb.grown h2 hsz (fun k hk => by injection hk with hk; omega)⟩
      · exact hcp.sess.kept h2 (.inr fun e => blk_apart hcp.res hcp.sess (by decide) e.symm)
      · exact hcp.opens.kept h2 (.inr fun e => blk_apart hcp.res hcp.opens (by decide) e.symm)
      · exact hcp.snaps.kept h2 (.inr fun e => blk_apart hcp.res hcp.snaps (by decide) e.symm)
      · have := hcp.chunks k f t (by have := (List.getElem?_eq_some_iff.1 hf).1; have := HL3.out; omega) hf ht
        exact this.kept h2 (.inr fun e => blk_apart hcp.res this (by decide) e.symm)
end Go.Proofs.Ytdkjdiamekfbdaa
