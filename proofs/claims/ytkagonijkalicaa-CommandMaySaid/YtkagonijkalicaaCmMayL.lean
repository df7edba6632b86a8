/-
  The walk of the law that which commands may be, what they need, what an older version sees, and rows of chunks, are as the reference says.
-/
import Derived.Test.YtkagonijkalicaaMgQ
set_option linter.unusedVariables false
set_option linter.unusedSimpArgs false
namespace Go.Proofs.Ytkagonijkalicaa
open Go.RowKit
open Cm (Cmd need mayC putC takeC project chunksB unchunk)
open Tl (Fel)

set_option maxHeartbeats 8000000 in
set_option maxRecDepth 100000 in
theorem cmay_any (c : Cmd) (s : Option Addr × Nat) (v : Int) (Ab : Option Addr) (nb cb0 : Nat) (bs : List Nat) (W : World) (h : RdC W W.heap.size c s) (hc : Cok (fewC c)) (ht : c.text.length ≤ 9223372036854775807) (hv : I64 v)
    (hb : ∀ c ∈ bs, c < 256) (hrb : Rd W W.heap.size 1 Ab nb (bvs bs)) (hnb : nb ≤ cb0) (hmb : cb0 ≤ 9223372036854775807) :
    Calls Try.prog 3 #[cagg c s, .int .i64 v, .slice Ab nb cb0] W fun e w' => e = .returned (.bool true) ∧ Below W.heap.size W w' := by
  obtain ⟨w0, hw0, hk0, hb0, hs0⟩ := box_cmd W c s 24
  obtain ⟨L, hL⟩ : ∃ L, min nb 3000 = L := ⟨_, rfl⟩
  have hL2 : L ≤ nb ∧ L ≤ 3000 := by omega
  have hrb2 := hrb.bytes_to hL2.1
  have hbx : ∀ c ∈ bs.take L, c < 256 := fun c hc => hb c (List.mem_of_mem_take hc)
  obtain ⟨xs, hxs⟩ : ∃ xs, bs.take L = xs := ⟨_, rfl⟩
  rw [hxs] at hrb2 hbx
  have hshort := fun w' => short5_any Ab nb cb0 w' hnb hmb
  rw [hL] at hshort
  have hfew := fun w' (h' : RdC w' w'.heap.size c s) => fewc_same c s w' h' ht
  have hrF : ∀ w', Below W.heap.size W w' → RdC w' w'.heap.size (fewC c) s := fun w' hb' => few_rd h hb'
  obtain ⟨F, hF⟩ : ∃ F, fewC c = F := ⟨_, rfl⟩
  rw [hF] at hc hfew hrF
  obtain ⟨cb, hcb⟩ : ∃ cb, (chunksB F.chunks).1 = cb := ⟨_, rfl⟩
  obtain ⟨ce, hce⟩ : ∃ ce, (chunksB F.chunks).2 = ce := ⟨_, rfl⟩
  obtain ⟨m4, hm4⟩ : ∃ m, cb.length = m := ⟨_, rfl⟩
  obtain ⟨ul, hul⟩ : ∃ ul, (unchunk xs).1 = ul := ⟨_, rfl⟩
  obtain ⟨ue, hue⟩ : ∃ ue, (unchunk xs).2 = ue := ⟨_, rfl⟩
  have HFEW := Lib.hid hfew
  have HRF := Lib.hid hrF
  have HOK := Lib.hid hc
  have HSH := Lib.hid hshort
  have HRX := Lib.hid hrb2
  have HBX := Lib.hid hbx
  have HCB := Lib.hid hcb
  have HCE := Lib.hid hce
  have HM4 := Lib.hid hm4
  have HUL := Lib.hid hul
  have HUE := Lib.hid hue
  have HK := Lib.hid hk0
  have HW := Lib.hid hw0
  have HRC := Lib.hid h
  have hbw := hb0
  obtain ⟨k0, k1, k2, k3, k4, k5, k6, k7⟩ := cblk_cells hk0
  clear hw0 hk0 h hc hshort hrb2 hbx hcb hce hm4 hul hue hfew hrF hF hL hxs hb hrb hb0
  unfold cagg cblk at *
  go_enter Try.func3, Try.ntmps3
  go_upto_region 1 with fail
  rw [← HW.out]
  go_wp2_with fail
  refine (cshown_any w0).mono ?_
  rintro e w1 ⟨rfl, hb1⟩
  have hlt1 : W.heap.size < w1.heap.size := Nat.lt_of_lt_of_le hs0 hb1.size
  replace HK := Lib.hid (HK.out.below hb1 hs0)
  replace HRC := Lib.hid ((HRC.out.below (hbw.trans (hb1.mono hbw.size))).more (hbw.trans (hb1.mono hbw.size)).size)
  replace hbw := hbw.trans (hb1.mono hbw.size)
  clear k0 k1 k2 k3 k4 k5 k6 k7 hb1
  obtain ⟨k0, k1, k2, k3, k4, k5, k6, k7⟩ := cblk_cells HK.out
  go_wp2_with fail
  refine (HFEW.out w1 HRC.out).mono ?_
  rintro e w2 ⟨rfl, hb2⟩
  replace HK := Lib.hid (HK.out.below hb2 hlt1)
  replace hbw := hbw.trans (hb2.mono hbw.size)
  have hlt2 : W.heap.size < w2.heap.size := Nat.lt_of_lt_of_le hlt1 hb2.size
  clear k0 k1 k2 k3 k4 k5 k6 k7 hb2
  obtain ⟨k0, k1, k2, k3, k4, k5, k6, k7⟩ := cblk_cells HK.out
  obtain ⟨z0, z1, z2, z3, z4, z5, z6, z7⟩ := frozen_facts HK.out
  obtain ⟨h1, h2⟩ := blk_set8 HK.out (.int .i64 F.kind) (.int .i64 F.client) (.int .i64 F.seq) (.int .i64 F.set) (.int .i64 F.id) (.int .i64 F.n) (.slice s.1 F.chunks.length s.2) (.string (strOf F.text))
  obtain ⟨w3, hw3⟩ : ∃ w3, w3 = ((((((((w2.setCell ⟨W.heap.size, 0, none⟩ (.int .i64 F.kind)).setCell ⟨W.heap.size, 1, none⟩ (.int .i64 F.client)).setCell ⟨W.heap.size, 2, none⟩ (.int .i64 F.seq)).setCell ⟨W.heap.size, 3, none⟩ (.int .i64 F.set)).setCell ⟨W.heap.size, 4, none⟩ (.int .i64 F.id)).setCell ⟨W.heap.size, 5, none⟩ (.int .i64 F.n)).setCell ⟨W.heap.size, 6, none⟩ (.slice s.1 F.chunks.length s.2)).setCell ⟨W.heap.size, 7, none⟩ (.string (strOf F.text))) := ⟨_, rfl⟩
  rw [← hw3] at h1 h2
  have hb3 : Below W.heap.size W w3 := hbw.grown h2 (Nat.le_of_lt hlt2) (fun k hk => by injection hk with hk; omega)
  have HW3 := Lib.hid hw3
  replace HK := Lib.hid (show Blk w3 W.heap.size 24 (cblk F s) from h1)
  replace HRC := Lib.hid (HRF.out w3 hb3)
  have hlt : W.heap.size < w3.heap.size := h1.lt
  replace HRX := Lib.hid ((HRX.out.below hb3).more hb3.size)
  replace hbw := hb3
  obtain ⟨y0, y1, y2, y3, y4, y5, y6, y7⟩ := cblk_cells HK.out
  rw [hw3] at y0 y1 y2 y3 y4 y5 y6 y7
  clear hw3 h1 h2 hb3 HRF HFEW hlt1 hlt2
  go_upto_region 3 with fail
  rw [← HW3.out]
  clear k0 k1 k2 k3 k4 k5 k6 k7 y0 y1 y2 y3 y4 y5 y6 y7 z0 z1 z2 z3 z4 z5 z6 z7 HW3
  obtain ⟨k0, k1, k2, k3, k4, k5, k6, k7⟩ := cblk_cells HK.out
  have HFC := Lib.hid HOK.out.2.1
  go_wp2_with fail
  refine (chunks_c s.1 F.chunks.length s.2 F.chunks w3 HRC.out.1 HRC.out.2.1 HRC.out.2.2 HOK.out.2.2.2.1 HFC.out).mono ?_
  rintro e w4 ⟨v4, rfl, hown4, hb4⟩
  rw [HCB.out] at hown4
  rw [HM4.out] at hown4
  rw [HCE.out]
  obtain ⟨A4, c4, rfl, hc4, hc42⟩ := slice_of_own hown4
  have HX4 := Lib.hid (Rd.of_own hown4)
  have hlt4 := Nat.lt_of_lt_of_le hlt hb4.size
  clear hlt k0 k1 k2 k3 k4 k5 k6 k7
  replace HK := Lib.hid (HK.out.below hb4 HK.out.lt)
  replace HRC := Lib.hid ((HRC.out.below hb4).more hb4.size)
  replace HRX := Lib.hid ((HRX.out.below hb4).more hb4.size)
  replace hbw := hbw.trans (hb4.mono hbw.size)
  clear hb4
  obtain ⟨k0, k1, k2, k3, k4, k5, k6, k7⟩ := cblk_cells HK.out
  clear hown4
  go_wp2_with fail
  refine (rchunks_any s.1 F.chunks.length s.2 F.chunks w4 HRC.out.1 HRC.out.2.1 HRC.out.2.2).mono ?_
  rintro e w5 ⟨v5, rfl, hown5, hb5⟩
  rw [HCB.out] at hown5
  rw [HM4.out] at hown5
  rw [HCE.out]
  obtain ⟨A5, c5, rfl, hc5, hc52⟩ := slice_of_own hown5
  have HX5 := Lib.hid (Rd.of_own hown5)
  have hlt5 := Nat.lt_of_lt_of_le hlt4 hb5.size
  clear hlt4 k0 k1 k2 k3 k4 k5 k6 k7
  replace HK := Lib.hid (HK.out.below hb5 HK.out.lt)
  replace HRC := Lib.hid ((HRC.out.below hb5).more hb5.size)
  replace HRX := Lib.hid ((HRX.out.below hb5).more hb5.size)
  replace HX4 := Lib.hid ((HX4.out.below hb5).more hb5.size)
  replace hbw := hbw.trans (hb5.mono hbw.size)
  clear hb5
  clear hown5
  go_wp2_with fail
  refine (HSH.out w5).mono ?_
  rintro e w5' ⟨rfl, rfl⟩
  go_wp2_with fail
  refine (unchunk_c Ab L cb0 xs w5 HBX.out HRX.out (by omega) hmb (by omega)).mono ?_
  rintro e w6 ⟨v6, rfl, ⟨A6, n6, c6, rfl, hn6, hc6, hl6, hr6⟩, hb6⟩
  rw [HUL.out] at hl6 hr6
  rw [HUE.out]
  have HX6 := Lib.hid hr6
  have hlt6 := Nat.lt_of_lt_of_le hlt5 hb6.size
  clear hlt5 hl6 hr6
  replace HK := Lib.hid (HK.out.below hb6 HK.out.lt)
  replace HRC := Lib.hid ((HRC.out.below hb6).more hb6.size)
  replace HRX := Lib.hid ((HRX.out.below hb6).more hb6.size)
  replace HX4 := Lib.hid ((HX4.out.below hb6).more hb6.size)
  replace HX5 := Lib.hid ((HX5.out.below hb6).more hb6.size)
  replace hbw := hbw.trans (hb6.mono hbw.size)
  clear hb6
  go_wp2_with fail
  refine (HSH.out w6).mono ?_
  rintro e w6' ⟨rfl, rfl⟩
  go_wp2_with fail
  refine (runchunk_any Ab L cb0 xs w6 HBX.out HRX.out (by omega) hmb (by omega)).mono ?_
  rintro e w7 ⟨v7, rfl, hown7, hb7⟩
  rw [HUL.out] at hown7
  rw [HUE.out]
  obtain ⟨A7, c7, rfl, hc7, hc72⟩ := slice_of_own hown7
  have HX7 := Lib.hid (Rd.of_own hown7)
  have hlt7 := Nat.lt_of_lt_of_le hlt6 hb7.size
  clear hlt6 hown7
  replace HK := Lib.hid (HK.out.below hb7 HK.out.lt)
  replace HRC := Lib.hid ((HRC.out.below hb7).more hb7.size)
  replace HX4 := Lib.hid ((HX4.out.below hb7).more hb7.size)
  replace HX5 := Lib.hid ((HX5.out.below hb7).more hb7.size)
  replace HX6 := Lib.hid ((HX6.out.below hb7).more hb7.size)
  replace hbw := hbw.trans (hb7.mono hbw.size)
  clear hb7
  go_wp2_with fail
  refine (ints_any A6 A7 n6 ul.length c6 c7 ul ul w7 HX6.out HX7.out hn6 hc6 hc7 hc72).mono ?_
  rintro e w8 ⟨rfl, hb8⟩
  rw [decide_eq_true (rfl : ul = ul)]
  have hlt := Nat.lt_of_lt_of_le hlt7 hb8.size
  clear hlt7
  replace HK := Lib.hid (HK.out.below hb8 HK.out.lt)
  replace HRC := Lib.hid ((HRC.out.below hb8).more hb8.size)
  replace HX4 := Lib.hid ((HX4.out.below hb8).more hb8.size)
  replace HX5 := Lib.hid ((HX5.out.below hb8).more hb8.size)
  replace hbw := hbw.trans (hb8.mono hbw.size)
  clear hb8
  clear HX6 HX7 HRX HBX HUL HUE HSH HCB HCE HM4
  go_upto_region 8 with fail
  refine wp_region_grew (n := 97) (Say [(48, isv (cagg F s)), (49, isv (.int .i64 v)), (50, iscmd (project F v)), (51, isv (cagg F s)), (52, isv (.int .i64 v)), (53, iscmd (project F v)), (54, isv (.bool true)), (17, isv (.bool true))]) (by kernel_rfl) (by kernel_rfl) rfl ⟨?_, ?_, ?_, ?_, ?_, ?_, ?_, ?_, trivial⟩ ?_
  · refine owed_val _ rfl rfl (fun _ => rfl) fun fr w hC hK => ?_
    have k3 : slot fr 3 = .pointer (some ⟨W.heap.size, 0, none⟩) := known_out hK 3 (by kernel_rfl)
    clear hK
    unfold slot at k3
    unfold cagg cblk
    have hk := Blk.below HK.out hC hlt
    obtain ⟨x0, x1, x2, x3, x4, x5, x6, x7⟩ := cblk_cells hk
    go_simp
  · exact owed_move rfl rfl (.inl rfl) fun fr w _ hK => known_out hK 1 (by kernel_rfl)
  · refine owed_plain rfl rfl fun fr w hC hK K hk => ?_
    have k48 : slot fr 48 = cagg F s := known_in hK 48 (by kernel_rfl)
    have k49 : slot fr 49 = .int .i64 v := known_in hK 49 (by kernel_rfl)
    clear hK
    unfold slot at k48 k49
    go_simp
    refine (project_c F s v w ((HRC.out.below hC).more hC.size) HOK.out hv).mono ?_
    rintro e w' ⟨s1, rfl, hr1, hb1⟩
    exact hk _ _ hb1 ⟨s1, rfl, hr1⟩
  · refine owed_val _ rfl rfl (fun _ => rfl) fun fr w hC hK => ?_
    have k3 : slot fr 3 = .pointer (some ⟨W.heap.size, 0, none⟩) := known_out hK 3 (by kernel_rfl)
    clear hK
    unfold slot at k3
    unfold cagg cblk
    have hk := Blk.below HK.out hC hlt
    obtain ⟨x0, x1, x2, x3, x4, x5, x6, x7⟩ := cblk_cells hk
    go_simp
  · exact owed_move rfl rfl (.inl rfl) fun fr w _ hK => known_out hK 1 (by kernel_rfl)
  · refine owed_plain rfl rfl fun fr w hC hK K hk => ?_
    have k51 : slot fr 51 = cagg F s := known_in hK 51 (by kernel_rfl)
    have k52 : slot fr 52 = .int .i64 v := known_in hK 52 (by kernel_rfl)
    clear hK
    unfold slot at k51 k52
    go_simp
    refine (rproject_any F s v w).mono ?_
    rintro e w' ⟨rfl, hb1⟩
    exact hk _ _ hb1 ⟨s, rfl, by unfold RdC; rw [project_chunks]; exact (((HRC.out.below hC).more hC.size).below hb1).more hb1.size⟩
  · refine owed_plain rfl rfl fun fr w hC hK K hk => ?_
    have k50 := known_in hK 50 (by kernel_rfl)
    have k53 := known_in hK 53 (by kernel_rfl)
    clear hK
    obtain ⟨s50, e50, r50⟩ := k50
    obtain ⟨s53, e53, r53⟩ := k53
    unfold slot at e50 e53
    go_simp
    refine (samec_any (project F v) (project F v) s50 s53 w r50 r53 (project_ok HOK.out v).2.2.1 (project_ok HOK.out v).2.2.1).mono ?_
    rintro e w' ⟨rfl, hb1⟩
    exact hk _ _ hb1 (congrArg Value.bool (decide_eq_true rfl))
  · exact owed_move rfl rfl (.inr rfl) fun fr w _ hK => known_in hK 54 (by kernel_rfl)
  intro vs w9 hg hgood
  have h17 : vs 17 = .bool true := hgood.2.2.2.2.2.2.2.1
  clear hgood
  simp only [putsOf]
  rw [h17]
  go_simp
  have hb9 : Below w8.heap.size w8 w9 := hg
  replace hlt := Nat.lt_of_lt_of_le hlt hb9.size
  replace HK := Lib.hid (HK.out.below hb9 HK.out.lt)
  replace HRC := Lib.hid ((HRC.out.below hb9).more hb9.size)
  replace HX4 := Lib.hid ((HX4.out.below hb9).more hb9.size)
  replace HX5 := Lib.hid ((HX5.out.below hb9).more hb9.size)
  replace hbw := hbw.trans (hb9.mono hbw.size)
  clear hb9
  clear hg
  go_upto_region 9 with fail
  refine wp_region_grew (n := 97) (Say [(55, isv (.bool true)), (56, isv (.bool true)), (57, isv (.pointer (some ⟨W.heap.size, 0, none⟩))), (58, isv (.int .i64 F.kind)), (59, isv (.int .i64 (need F.kind))), (60, isv (.pointer (some ⟨W.heap.size, 0, none⟩))), (61, isv (.int .i64 F.kind)), (62, isv (.int .i64 (need F.kind))), (63, isv (.bool true)), (64, isv (.bool true)), (65, isv (.bool true)), (66, isv (cagg F s)), (67, isv (.int .i64 v)), (68, isv (.int .i64 ((mayC F v : Nat) : Int))), (69, isv (cagg F s)), (70, isv (.int .i64 v)), (71, isv (.int .i64 ((mayC F v : Nat) : Int))), (72, isv (.bool true)), (73, isv (.bool true)), (74, isv (.bool true)), (75, isv (.slice A4 m4 c4)), (76, isv (.string (strOf cb))), (77, isv (.slice A5 m4 c5)), (78, isv (.string (strOf cb))), (79, isv (.bool true)), (80, isv (.bool true)), (81, isv (.bool true)), (82, isv (.int .i64 (ce : Int))), (83, isv (.int .i64 (ce : Int))), (84, isv (.bool true)), (85, isv (.bool true)), (86, isv (.bool true)), (87, isv (.bool true)), (88, isv (.bool true)), (89, isv (.bool true)), (90, isv (.int .i64 (ue : Int))), (91, isv (.int .i64 (ue : Int))), (92, isv (.bool true)), (93, isv (.bool true)), (94, isv (.bool true)), (95, isv (.bool true)), (96, isv (.bool true)), (6, isv (.bool true))]) (by kernel_rfl) (by kernel_rfl) rfl ⟨?_, ?_, ?_, ?_, ?_, ?_, ?_, ?_, ?_, ?_, ?_, ?_, ?_, ?_, ?_, ?_, ?_, ?_, ?_, ?_, ?_, ?_, ?_, ?_, ?_, ?_, ?_, ?_, ?_, ?_, ?_, ?_, ?_, ?_, ?_, ?_, ?_, ?_, ?_, ?_, ?_, ?_, ?_, trivial⟩ ?_
  · exact owed_move rfl rfl (.inl rfl) fun fr w _ hK => known_out hK 7 (by kernel_rfl)
  · exact owed_move rfl rfl (.inl rfl) fun fr w _ hK => known_in hK 55 (by kernel_rfl)
  · refine owed_wval _ rfl rfl rfl (by kernel_rfl) (fun _ _ h => h) (fun _ => rfl) fun fr w hC hK => ?_
    have k3 : slot fr 3 = .pointer (some ⟨W.heap.size, 0, none⟩) := known_out hK 3 (by kernel_rfl)
    clear hK
    unfold slot at k3
    go_simp
  · refine owed_wval _ rfl rfl rfl (by kernel_rfl) (fun _ _ h => h) (fun _ => rfl) fun fr w hC hK => ?_
    have k57 : slot fr 57 = .pointer (some ⟨W.heap.size, 0, none⟩) := known_in hK 57 (by kernel_rfl)
    clear hK
    unfold slot at k57
    have hk := Blk.below HK.out hC hlt
    obtain ⟨x0, x1, x2, x3, x4, x5, x6, x7⟩ := cblk_cells hk
    go_simp
  · refine owed_wanted rfl rfl rfl (by kernel_rfl) (fun _ _ h => h) fun fr w hC hK K hk => ?_
    have k58 : slot fr 58 = .int .i64 F.kind := known_in hK 58 (by kernel_rfl)
    clear hK
    unfold slot at k58
    go_simp
    refine (need_c F.kind w HOK.out.1.1).mono ?_
    rintro e w' ⟨rfl, hb1⟩
    exact hk _ _ hb1 rfl
  · refine owed_wval _ rfl rfl rfl (by kernel_rfl) (fun _ _ h => h) (fun _ => rfl) fun fr w hC hK => ?_
    have k3 : slot fr 3 = .pointer (some ⟨W.heap.size, 0, none⟩) := known_out hK 3 (by kernel_rfl)
    clear hK
    unfold slot at k3
    go_simp
  · refine owed_wval _ rfl rfl rfl (by kernel_rfl) (fun _ _ h => h) (fun _ => rfl) fun fr w hC hK => ?_
    have k60 : slot fr 60 = .pointer (some ⟨W.heap.size, 0, none⟩) := known_in hK 60 (by kernel_rfl)
    clear hK
    unfold slot at k60
    have hk := Blk.below HK.out hC hlt
    obtain ⟨x0, x1, x2, x3, x4, x5, x6, x7⟩ := cblk_cells hk
    go_simp
  · refine owed_wanted rfl rfl rfl (by kernel_rfl) (fun _ _ h => h) fun fr w hC hK K hk => ?_
    have k61 : slot fr 61 = .int .i64 F.kind := known_in hK 61 (by kernel_rfl)
    clear hK
    unfold slot at k61
    go_simp
    refine (rneed_any F.kind w).mono ?_
    rintro e w' ⟨rfl, rfl⟩
    exact hk _ _ (Below.refl _ _) rfl
  · refine owed_wval _ rfl rfl rfl (by kernel_rfl) (fun _ _ h => h) (fun _ => rfl) fun fr w hC hK => ?_
    have k59 : slot fr 59 = .int .i64 (need F.kind) := known_in hK 59 (by kernel_rfl)
    have k62 : slot fr 62 = .int .i64 (need F.kind) := known_in hK 62 (by kernel_rfl)
    clear hK
    unfold slot at k59 k62
    go_simp
  · refine owed_val _ rfl rfl (fun _ => rfl) fun fr w hC hK => ?_
    have k56 : slot fr 56 = .bool true := known_in hK 56 (by kernel_rfl)
    have k63 : slot fr 63 = .bool true := known_in hK 63 (by kernel_rfl)
    clear hK
    unfold slot at k56 k63
    go_simp
  · exact owed_move rfl rfl (.inl rfl) fun fr w _ hK => known_in hK 64 (by kernel_rfl)
  · refine owed_wval _ rfl rfl rfl (by kernel_rfl) (fun _ _ h => h) (fun _ => rfl) fun fr w hC hK => ?_
    have k3 : slot fr 3 = .pointer (some ⟨W.heap.size, 0, none⟩) := known_out hK 3 (by kernel_rfl)
    clear hK
    unfold slot at k3
    unfold cagg cblk
    have hk := Blk.below HK.out hC hlt
    obtain ⟨x0, x1, x2, x3, x4, x5, x6, x7⟩ := cblk_cells hk
    go_simp
  · exact owed_movew rfl rfl rfl (by kernel_rfl) (fun _ _ h => h) (.inl rfl) fun fr w _ hK => known_out hK 1 (by kernel_rfl)
  · refine owed_wanted rfl rfl rfl (by kernel_rfl) (fun _ _ h => h) fun fr w hC hK K hk => ?_
    have k66 : slot fr 66 = cagg F s := known_in hK 66 (by kernel_rfl)
    have k67 : slot fr 67 = .int .i64 v := known_in hK 67 (by kernel_rfl)
    clear hK
    unfold slot at k66 k67
    go_simp
    refine (may_c F s v w ((HRC.out.below hC).more hC.size) HOK.out hv).mono ?_
    rintro e w' ⟨rfl, hb1⟩
    exact hk _ _ hb1 rfl
  · refine owed_wval _ rfl rfl rfl (by kernel_rfl) (fun _ _ h => h) (fun _ => rfl) fun fr w hC hK => ?_
    have k3 : slot fr 3 = .pointer (some ⟨W.heap.size, 0, none⟩) := known_out hK 3 (by kernel_rfl)
    clear hK
    unfold slot at k3
    unfold cagg cblk
    have hk := Blk.below HK.out hC hlt
    obtain ⟨x0, x1, x2, x3, x4, x5, x6, x7⟩ := cblk_cells hk
    go_simp
  · exact owed_movew rfl rfl rfl (by kernel_rfl) (fun _ _ h => h) (.inl rfl) fun fr w _ hK => known_out hK 1 (by kernel_rfl)
  · refine owed_wanted rfl rfl rfl (by kernel_rfl) (fun _ _ h => h) fun fr w hC hK K hk => ?_
    have k69 : slot fr 69 = cagg F s := known_in hK 69 (by kernel_rfl)
    have k70 : slot fr 70 = .int .i64 v := known_in hK 70 (by kernel_rfl)
    clear hK
    unfold slot at k69 k70
    go_simp
    refine (rmayc_any F s v w ((HRC.out.below hC).more hC.size) HOK.out).mono ?_
    rintro e w' ⟨rfl, hb1⟩
    exact hk _ _ hb1 rfl
  · refine owed_wval _ rfl rfl rfl (by kernel_rfl) (fun _ _ h => h) (fun _ => rfl) fun fr w hC hK => ?_
    have k68 : slot fr 68 = .int .i64 ((mayC F v : Nat) : Int) := known_in hK 68 (by kernel_rfl)
    have k71 : slot fr 71 = .int .i64 ((mayC F v : Nat) : Int) := known_in hK 71 (by kernel_rfl)
    clear hK
    unfold slot at k68 k71
    go_simp
  · refine owed_val _ rfl rfl (fun _ => rfl) fun fr w hC hK => ?_
    have k65 : slot fr 65 = .bool true := known_in hK 65 (by kernel_rfl)
    have k72 : slot fr 72 = .bool true := known_in hK 72 (by kernel_rfl)
    clear hK
    unfold slot at k65 k72
    go_simp
  · exact owed_move rfl rfl (.inl rfl) fun fr w _ hK => known_in hK 73 (by kernel_rfl)
  · exact owed_movew rfl rfl rfl (by kernel_rfl) (fun _ _ h => h) (.inl rfl) fun fr w _ hK => known_out hK 8 (by kernel_rfl)
  · refine owed_wval _ rfl rfl rfl (by kernel_rfl) (fun _ _ h => h) (fun _ => rfl) fun fr w hC hK => ?_
    have k75 : slot fr 75 = .slice A4 m4 c4 := known_in hK 75 (by kernel_rfl)
    clear hK
    unfold slot at k75
    have sx := run_str (P := Try.prog) w 25 9 5 Try.underlying25 Try.underlying5 Try.underlying9 (HX4.out.below hC) c4
    go_simp
  · exact owed_movew rfl rfl rfl (by kernel_rfl) (fun _ _ h => h) (.inl rfl) fun fr w _ hK => known_out hK 10 (by kernel_rfl)
  · refine owed_wval _ rfl rfl rfl (by kernel_rfl) (fun _ _ h => h) (fun _ => rfl) fun fr w hC hK => ?_
    have k77 : slot fr 77 = .slice A5 m4 c5 := known_in hK 77 (by kernel_rfl)
    clear hK
    unfold slot at k77
    have sx := run_str (P := Try.prog) w 25 9 5 Try.underlying25 Try.underlying5 Try.underlying9 (HX5.out.below hC) c5
    go_simp
  · refine owed_wval _ rfl rfl rfl (by kernel_rfl) (fun _ _ h => h) (fun _ => rfl) fun fr w hC hK => ?_
    have k76 : slot fr 76 = .string (strOf cb) := known_in hK 76 (by kernel_rfl)
    have k78 : slot fr 78 = .string (strOf cb) := known_in hK 78 (by kernel_rfl)
    clear hK
    unfold slot at k76 k78
    go_simp
  · refine owed_val _ rfl rfl (fun _ => rfl) fun fr w hC hK => ?_
    have k74 : slot fr 74 = .bool true := known_in hK 74 (by kernel_rfl)
    have k79 : slot fr 79 = .bool true := known_in hK 79 (by kernel_rfl)
    clear hK
    unfold slot at k74 k79
    go_simp
  · exact owed_move rfl rfl (.inl rfl) fun fr w _ hK => known_in hK 80 (by kernel_rfl)
  · exact owed_movew rfl rfl rfl (by kernel_rfl) (fun _ _ h => h) (.inl rfl) fun fr w _ hK => known_out hK 9 (by kernel_rfl)
  · exact owed_movew rfl rfl rfl (by kernel_rfl) (fun _ _ h => h) (.inl rfl) fun fr w _ hK => known_out hK 11 (by kernel_rfl)
  · refine owed_wval _ rfl rfl rfl (by kernel_rfl) (fun _ _ h => h) (fun _ => rfl) fun fr w hC hK => ?_
    have k82 : slot fr 82 = .int .i64 (ce : Int) := known_in hK 82 (by kernel_rfl)
    have k83 : slot fr 83 = .int .i64 (ce : Int) := known_in hK 83 (by kernel_rfl)
    clear hK
    unfold slot at k82 k83
    go_simp
  · refine owed_val _ rfl rfl (fun _ => rfl) fun fr w hC hK => ?_
    have k81 : slot fr 81 = .bool true := known_in hK 81 (by kernel_rfl)
    have k84 : slot fr 84 = .bool true := known_in hK 84 (by kernel_rfl)
    clear hK
    unfold slot at k81 k84
    go_simp
  · exact owed_move rfl rfl (.inl rfl) fun fr w _ hK => known_in hK 85 (by kernel_rfl)
  · exact owed_movew rfl rfl rfl (by kernel_rfl) (fun _ _ h => h) (.inl rfl) fun fr w _ hK => known_out hK 16 (by kernel_rfl)
  · refine owed_val _ rfl rfl (fun _ => rfl) fun fr w hC hK => ?_
    have k86 : slot fr 86 = .bool true := known_in hK 86 (by kernel_rfl)
    have k87 : slot fr 87 = .bool true := known_in hK 87 (by kernel_rfl)
    clear hK
    unfold slot at k86 k87
    go_simp
  · exact owed_move rfl rfl (.inl rfl) fun fr w _ hK => known_in hK 88 (by kernel_rfl)
  · exact owed_movew rfl rfl rfl (by kernel_rfl) (fun _ _ h => h) (.inl rfl) fun fr w _ hK => known_out hK 13 (by kernel_rfl)
  · exact owed_movew rfl rfl rfl (by kernel_rfl) (fun _ _ h => h) (.inl rfl) fun fr w _ hK => known_out hK 15 (by kernel_rfl)
  · refine owed_wval _ rfl rfl rfl (by kernel_rfl) (fun _ _ h => h) (fun _ => rfl) fun fr w hC hK => ?_
    have k90 : slot fr 90 = .int .i64 (ue : Int) := known_in hK 90 (by kernel_rfl)
    have k91 : slot fr 91 = .int .i64 (ue : Int) := known_in hK 91 (by kernel_rfl)
    clear hK
    unfold slot at k90 k91
    go_simp
  · refine owed_val _ rfl rfl (fun _ => rfl) fun fr w hC hK => ?_
    have k89 : slot fr 89 = .bool true := known_in hK 89 (by kernel_rfl)
    have k92 : slot fr 92 = .bool true := known_in hK 92 (by kernel_rfl)
    clear hK
    unfold slot at k89 k92
    go_simp
  · exact owed_move rfl rfl (.inl rfl) fun fr w _ hK => known_in hK 93 (by kernel_rfl)
  · exact owed_movew rfl rfl rfl (by kernel_rfl) (fun _ _ h => h) (.inl rfl) fun fr w _ hK => known_out hK 17 (by kernel_rfl)
  · refine owed_val _ rfl rfl (fun _ => rfl) fun fr w hC hK => ?_
    have k94 : slot fr 94 = .bool true := known_in hK 94 (by kernel_rfl)
    have k95 : slot fr 95 = .bool true := known_in hK 95 (by kernel_rfl)
    clear hK
    unfold slot at k94 k95
    go_simp
  · exact owed_move rfl rfl (.inr rfl) fun fr w _ hK => known_in hK 96 (by kernel_rfl)
  intro vs w10 hg hgood
  have h6 : vs 6 = .bool true := hgood.2.2.2.2.2.2.2.2.2.2.2.2.2.2.2.2.2.2.2.2.2.2.2.2.2.2.2.2.2.2.2.2.2.2.2.2.2.2.2.2.2.2.1
  clear hgood
  simp only [putsOf]
  rw [h6]
  go_simp
  go_wp2
  go_ret
  exact ⟨rfl, hbw.trans (Below.mono hg hbw.size)⟩
end Go.Proofs.Ytkagonijkalicaa
