/-
  The walk of the law that what was laid down at a version is taken at each lesser one as its projection, and that what stands behind is put back.
-/
import Derived.Test.YtkagonijkalicaaMgQ
import Derived.Test.YtkagonijkalicaaCmOlder
import Derived.Test.YtkagonijkalicaaTlSame
set_option linter.unusedVariables false
set_option linter.unusedSimpArgs false
namespace Go.Proofs.Ytkagonijkalicaa
open Go.RowKit
open Cm (Cmd need mayC putC takeC project chunksB unchunk noCmd)
open Tl (Fel)

set_option maxHeartbeats 8000000 in
set_option maxRecDepth 100000 in
theorem colder_any (c : Cmd) (s : Option Addr × Nat) (A : Option Addr) (n cc : Nat) (l : List Fel) (S : List (Option Addr × Nat)) (ver : Int) (old : Int) (W : World) (h : RdC W W.heap.size c s) (hc : Cok (fewC c)) (ht : c.text.length ≤ 9223372036854775807)
    (hr : RdF W W.heap.size A n l S) (hnc : n ≤ cc) (hmax : cc ≤ 9223372036854775807) (hl : ∀ f ∈ someL l, Fok f) (hver : 0 ≤ ver ∧ ver ≤ 255) (hold : 0 ≤ old ∧ old ≤ 255) :
    Calls Try.prog 7 #[cagg c s, .agg #[.slice A n cc, .int .u8 ver], .int .u8 old] W fun e w' => e = .returned (.bool true) ∧ Below W.heap.size W w' := by
  obtain ⟨i0, hi, hz0, hz1, hz2⟩ := info_parts byte_info
  obtain ⟨w0', hw0', hk0', hb0', hs0'⟩ := box_cmd W c s 24
  obtain ⟨w0, hw0⟩ : ∃ w0 : World, w0 = w0'.alloc (.cells #[.slice A n cc, .int .u8 ver] 49) := ⟨_, rfl⟩
  have hsz0 : w0'.heap.size = W.heap.size + 1 := by rw [hw0']; simp
  have hkx : Blk w0 (W.heap.size + 1) 49 #[.slice A n cc, .int .u8 ver] := by rw [hw0, ← hsz0]; exact Blk.new _ _ _
  have hk0 : Blk w0 W.heap.size 24 (cblk c s) := by rw [hw0]; exact hk0'.alloc _
  have hb0 : Below W.heap.size W w0 := by rw [hw0]; exact hb0'.alloc (Nat.le_of_lt hs0') _
  have hs0 : W.heap.size < w0.heap.size := hk0.lt
  have hfew := fun w' (h' : RdC w' w'.heap.size c s) => fewc_same c s w' h' ht
  have hsome := fun w' (h' : RdF w' w'.heap.size A n l S) => some_any A n cc l S w' h' hnc hmax
  have hrF : ∀ w', Below W.heap.size W w' → RdC w' w'.heap.size (fewC c) s := fun w' hb' => few_rd h hb'
  obtain ⟨F, hF⟩ : ∃ F, fewC c = F := ⟨_, rfl⟩
  have hll := someL_len l
  obtain ⟨sl, hsl⟩ : ∃ sl, someL l = sl := ⟨_, rfl⟩
  rw [hF] at hc hfew hrF
  rw [hsl] at hl hll hsome
  obtain ⟨V, hV⟩ : ∃ V : Int, 1 + ver % 3 = V := ⟨_, rfl⟩
  have hV13 : 1 ≤ V ∧ V ≤ 3 := by omega
  have hvI : I64 V := by unfold I64; omega
  have hvR : Cm.inR V 1 3 = true := Cm.inR_iff.2 hV13
  obtain ⟨pb, pe, hp⟩ : ∃ pb pe, putC F sl V = (pb, pe) := ⟨_, _, rfl⟩
  have HV := Lib.hid hV
  have HVR := Lib.hid hvR
  have HFEW := Lib.hid hfew
  have HSOME := Lib.hid hsome
  have HRF := Lib.hid hrF
  have HOK := Lib.hid hc
  have HLO := Lib.hid hl
  have HP := Lib.hid hp
  have HK := Lib.hid hk0
  have HKX := Lib.hid hkx
  have HW := Lib.hid (show w0 = (W.alloc (.cells (cblk c s) 24)).alloc (.cells #[.slice A n cc, .int .u8 ver] 49) by rw [hw0, hw0'])
  have HRC := Lib.hid ((h.below hb0).more (Nat.le_of_lt hs0))
  have HR := Lib.hid ((hr.below hb0).more (Nat.le_of_lt hs0))
  obtain ⟨Vo, hVo⟩ : ∃ V : Int, 1 + old % 3 = V := ⟨_, rfl⟩
  have hVo13 : 1 ≤ Vo ∧ Vo ≤ 3 := by omega
  have hvo : I64 Vo := by unfold I64; omega
  have HVO2 := Lib.hid (show Cm.inR Vo 1 3 = true from Cm.inR_iff.2 hVo13)
  have HVO := Lib.hid hVo
  have HR0 := Lib.hid hr
  clear hVo
  have hbw := hb0
  obtain ⟨k0, k1, k2, k3, k4, k5, k6, k7⟩ := cblk_cells hk0
  clear hw0 hk0 hkx h hc hr hl hfew hrF hF hsl hp hb0 hsome hw0' hk0' hb0' hs0' hsz0 hV hvR
  unfold cagg cblk at *
  go_enter Try.func7, Try.ntmps7
  go_upto_region 1 with fail
  rw [← HW.out]
  go_wp2_with fail
  refine (cshown_any w0).mono ?_
  rintro e w1 ⟨rfl, hb1⟩
  have hlt1 : W.heap.size < w1.heap.size := Nat.lt_of_lt_of_le hs0 hb1.size
  clear k0 k1 k2 k3 k4 k5 k6 k7
  replace HK := Lib.hid (HK.out.below hb1 HK.out.lt)
  replace HKX := Lib.hid (HKX.out.below hb1 HKX.out.lt)
  replace HRC := Lib.hid ((HRC.out.below hb1).more hb1.size)
  replace HR := Lib.hid ((HR.out.below hb1).more hb1.size)
  replace hbw := hbw.trans (hb1.mono hbw.size)
  clear hb1
  obtain ⟨k0, k1, k2, k3, k4, k5, k6, k7⟩ := cblk_cells HK.out
  go_wp2_with fail
  refine (HFEW.out w1 HRC.out).mono ?_
  rintro e w2 ⟨rfl, hb2⟩
  have hlt2 := Nat.lt_of_lt_of_le hlt1 hb2.size
  clear hlt1 k0 k1 k2 k3 k4 k5 k6 k7
  replace HK := Lib.hid (HK.out.below hb2 HK.out.lt)
  replace HKX := Lib.hid (HKX.out.below hb2 HKX.out.lt)
  replace HR := Lib.hid ((HR.out.below hb2).more hb2.size)
  replace hbw := hbw.trans (hb2.mono hbw.size)
  clear hb2
  obtain ⟨k0, k1, k2, k3, k4, k5, k6, k7⟩ := cblk_cells HK.out
  obtain ⟨z0, z1, z2, z3, z4, z5, z6, z7⟩ := frozen_facts HK.out
  obtain ⟨h1, h2⟩ := blk_set8 HK.out (.int .i64 F.kind) (.int .i64 F.client) (.int .i64 F.seq) (.int .i64 F.set) (.int .i64 F.id) (.int .i64 F.n) (.slice s.1 F.chunks.length s.2) (.string (strOf F.text))
  obtain ⟨w3, hw3⟩ : ∃ w3, w3 = ((((((((w2.setCell ⟨W.heap.size, 0, none⟩ (.int .i64 F.kind)).setCell ⟨W.heap.size, 1, none⟩ (.int .i64 F.client)).setCell ⟨W.heap.size, 2, none⟩ (.int .i64 F.seq)).setCell ⟨W.heap.size, 3, none⟩ (.int .i64 F.set)).setCell ⟨W.heap.size, 4, none⟩ (.int .i64 F.id)).setCell ⟨W.heap.size, 5, none⟩ (.int .i64 F.n)).setCell ⟨W.heap.size, 6, none⟩ (.slice s.1 F.chunks.length s.2)).setCell ⟨W.heap.size, 7, none⟩ (.string (strOf F.text))) := ⟨_, rfl⟩
  rw [← hw3] at h1 h2
  have hbx3 : Below W.heap.size W w3 := hbw.grown h2 (Nat.le_of_lt hlt2) (fun k hk => by injection hk with hk; omega)
  have HW3 := Lib.hid hw3
  replace HK := Lib.hid (show Blk w3 W.heap.size 24 (cblk F s) from h1)
  replace HKX := Lib.hid (show Blk w3 (W.heap.size + 1) 49 #[.slice A n cc, .int .u8 ver] from (h2.block _ HKX.out.lt (by simp)).trans HKX.out)
  replace HRC := Lib.hid (HRF.out w3 hbx3)
  have hlt : W.heap.size < w3.heap.size := h1.lt
  replace HR := Lib.hid ((HR0.out.below hbx3).more hbx3.size)
  replace hbw := hbx3
  clear hw3 h1 h2 hbx3 HRF HFEW hlt2
  go_upto_region 3 with fail
  rw [← HW3.out]
  clear k0 k1 k2 k3 k4 k5 k6 k7 z0 z1 z2 z3 z4 z5 z6 z7 HW3
  have x0 := HKX.out.cell 0
  have x1 := HKX.out.cell 1
  simp at x0 x1
  go_wp2_with fail
  refine (HSOME.out w3 HR.out).mono ?_
  rintro e w4 ⟨v4, rfl, ⟨A4, n4, c4, S4, rfl, hn4, hc4, hr4⟩, hb4⟩
  have HR4 := Lib.hid hr4
  have hl4 := hr4.1
  have hn20 : n4 ≤ 20 := by omega
  replace HKX := Lib.hid (HKX.out.below hb4 HKX.out.lt)
  replace hlt := Nat.lt_of_lt_of_le hlt hb4.size
  clear hr4 hl4 x0 x1 HSOME
  replace HK := Lib.hid (HK.out.below hb4 HK.out.lt)
  replace HRC := Lib.hid ((HRC.out.below hb4).more hb4.size)
  replace hbw := hbw.trans (hb4.mono hbw.size)
  clear hb4
  have x1 := HKX.out.cell 1
  simp at x1
  go_upto_region 4 with fail
  go_cut [9] (fun b wx => b = .int .i64 V ∧ wx = w4)
  case first =>
    go_wp2
    go_meet
    case rel => exact ⟨by rw [HV.out], rfl⟩
  case rest =>
    obtain ⟨rfl, hwc⟩ := hcut
    have hwc := hwc.symm
    subst hwc
    clear x1 HKX
    go_upto_region 5 with fail
    go_cut [10] (fun b wx => b = .int .i64 Vo ∧ wx = w4)
    case first =>
      go_wp2
      go_meet
      case rel => exact ⟨by rw [HVO.out], rfl⟩
    case rest =>
      obtain ⟨rfl, hwc⟩ := hcut
      have hwc := hwc.symm
      subst hwc
      obtain ⟨k0, k1, k2, k3, k4, k5, k6, k7⟩ := cblk_cells HK.out
      have hput := put_c F s V A4 n4 c4 sl S4 w4 HRC.out HOK.out HR4.out hn4 hc4 (by omega) HLO.out hvI
      rw [HP.out] at hput
      have HPU := Lib.hid hput
      unfold cagg cblk at HPU
      clear hput
      go_wp2_with fail
      refine HPU.out.mono ?_
      rintro e w5 ⟨v5, rfl, hown5, hb5⟩
      obtain ⟨m, hm⟩ : ∃ m, pb.length = m := ⟨_, rfl⟩
      have HM := Lib.hid hm
      rw [hm] at hown5
      obtain ⟨A5, c5, rfl, hc5, hc52⟩ := slice_of_own hown5
      have HX5 := Lib.hid (Rd.of_own hown5)
      replace hlt := Nat.lt_of_lt_of_le hlt hb5.size
      clear hown5 HPU k0 k1 k2 k3 k4 k5 k6 k7 hm
      replace HK := Lib.hid (HK.out.below hb5 HK.out.lt)
      replace HRC := Lib.hid ((HRC.out.below hb5).more hb5.size)
      replace HR4 := Lib.hid ((HR4.out.below hb5).more hb5.size)
      replace hbw := hbw.trans (hb5.mono hbw.size)
      clear hb5
      by_cases he : pe ≠ 0
      · have q : ((pe : Int) != 0) = true := by rw [bne_iff_ne]; omega
        clear he
        go_wp2
        go_ret
        exact ⟨rfl, hbw⟩
      replace he : pe = 0 := by omega
      subst he
      by_cases hvw : ¬ Vo ≤ V
      · go_wp2
        go_ret
        exact ⟨rfl, hbw⟩
      replace hvw : Vo ≤ V := by omega
      have hm16 : m ≤ 16384 := by rw [← HM.out]; exact putC_len HP.out
      obtain ⟨o1, o2, o3⟩ := older HVO2.out hvw HOK.out HLO.out HP.out
      have HPB := Lib.hid o3
      have HO1 := Lib.hid o1
      have HO2 := Lib.hid o2
      have HTK := Lib.hid (put_back HOK.out HLO.out HP.out)
      have HWF := Lib.hid (show ∀ f ∈ sl, f.wf from fun f hf => (HLO.out f hf).1)
      obtain ⟨ol, hol⟩ : ∃ ol, olds F Vo V = ol := ⟨_, rfl⟩
      have hol1 : ∀ f ∈ ol, Fok f := by
        intro f hf
        rw [← hol] at hf
        unfold olds at hf
        split at hf
        · exact fields_ok (puts_of (putC_ok.1 HP.out).2.1) HOK.out V f (by unfold Cm.fieldsC; exact List.mem_append_right _ (List.mem_append_right _ hf))
        · simp at hf
      have hol2 : ol.length ≤ 1 := by
        rw [← hol]
        unfold olds Cm.textF
        split
        · split <;> simp
        · simp
      rw [hol] at HO1 HO2
      have HOL := Lib.hid (show ∀ f ∈ ol ++ sl, Fok f from fun f hf => (List.mem_append.1 hf).elim (hol1 f) (HLO.out f))
      clear o1 o2 o3 hol hol1
      go_wp2_with (at_builtin; refine wpList_append_rd _ rfl (.tmp 55) (.tmp 56) 25 rfl w5.heap.size 5 i0 (.int .u8 0) 1 1 Try.underlying25 hi hz0 hz1 hz2 rfl (by decide) _ 0 [] rfl (World.ownsRow_made (e := 5) w5 #[] 0 (Nat.le_refl _) (by unfold maxLen; omega) rfl) w5.heap.size A5 m c5 (bvs pb) rfl (HX5.out.alloc (Nat.le_refl _) _) (bvs_one _) (by unfold maxLen; omega) (by omega) (by simp) ?_)
      intro v6 w6 hown6 hg6
      have hb6 : Below w5.heap.size w5 w6 := ((Below.refl _ _).alloc (Nat.le_refl _) _).grown hg6 (by simp) (fun k hk => by simp [Value.ownBlock] at hk; omega)
      have hown6' : w6.ownsRow w5.heap.size 5 1 v6 m (bvs pb) := by simpa using hown6
      obtain ⟨A6, c6, rfl, hc6, hc62⟩ := slice_of_own hown6'
      have HX6 := Lib.hid (Rd.of_own hown6')
      clear hown6 hg6 hown6'
      replace hlt := Nat.lt_of_lt_of_le hlt hb6.size
      replace HK := Lib.hid (HK.out.below hb6 HK.out.lt)
      replace HRC := Lib.hid ((HRC.out.below hb6).more hb6.size)
      replace HR4 := Lib.hid ((HR4.out.below hb6).more hb6.size)
      replace HX5 := Lib.hid ((HX5.out.below hb6).more hb6.size)
      replace hbw := hbw.trans (hb6.mono hbw.size)
      clear hb6
      have HT := Lib.hid (take_c A6 m c6 pb Vo w6 HPB.out HX6.out hc6 hc62 hvo)
      go_wp2_with fail
      refine HT.out.mono ?_
      rintro e w7 ⟨s7, u7, rfl, hrc7, hrow7, hb7⟩
      rw [HO1.out] at hrc7 hrow7
      rw [HO1.out]
      obtain ⟨A7, n7, c7, S7, rfl, hn7, hc7, hr7⟩ := hrow7
      simp only [] at hr7 hrc7
      have hl7 := hr7.1
      rw [List.length_append] at hl7
      have hn7' : n7 ≤ 21 := by omega
      have HRC7 := Lib.hid hrc7
      have HR7 := Lib.hid hr7
      replace hlt := Nat.lt_of_lt_of_le hlt hb7.size
      replace HK := Lib.hid (HK.out.below hb7 HK.out.lt)
      replace HRC := Lib.hid ((HRC.out.below hb7).more hb7.size)
      replace HR4 := Lib.hid ((HR4.out.below hb7).more hb7.size)
      replace HX5 := Lib.hid ((HX5.out.below hb7).more hb7.size)
      replace hbw := hbw.trans (hb7.mono hbw.size)
      clear hb7
      clear hrc7 hr7 HT HX6 hl7
      obtain ⟨gd, hgd⟩ : ∃ gd, gd = w7.heap.size := ⟨_, rfl⟩
      obtain ⟨w8, hw8, hk8, hb8, hs8⟩ := box_cmd w7 (project F Vo) s7 24
      have HW8 := Lib.hid hw8
      rw [← hgd] at hk8
      have HK8 := Lib.hid hk8
      have HGD := Lib.hid hgd
      have hlt8 := hk8.lt
      replace hlt := Nat.lt_of_lt_of_le hlt hb8.size
      replace HK := Lib.hid (HK.out.below hb8 HK.out.lt)
      replace HRC := Lib.hid ((HRC.out.below hb8).more hb8.size)
      replace HR4 := Lib.hid ((HR4.out.below hb8).more hb8.size)
      replace HX5 := Lib.hid ((HX5.out.below hb8).more hb8.size)
      replace HRC7 := Lib.hid ((HRC7.out.below hb8).more hb8.size)
      replace HR7 := Lib.hid ((HR7.out.below hb8).more hb8.size)
      replace hbw := hbw.trans (hb8.mono hbw.size)
      clear hb8
      clear hw8 hk8 hgd
      unfold cagg cblk at *
      go_upto_region 10 with fail
      rw [← HW8.out, ← HGD.out]
      refine wp_region_grew (n := 117) (Say [(63, isv (cagg (project F Vo) s7)), (64, isv (cagg F s)), (65, isv (.int .i64 Vo)), (66, iscmd (project F Vo)), (67, isv (.bool true)), (16, isv (.bool true))]) (by kernel_rfl) (by kernel_rfl) rfl ⟨?_, ?_, ?_, ?_, ?_, ?_, trivial⟩ ?_
      · refine owed_val _ rfl rfl (fun _ => rfl) fun fr w hC hK => ?_
        have k13 : slot fr 13 = .pointer (some ⟨gd, 0, none⟩) := known_out hK 13 (by kernel_rfl)
        clear hK
        unfold slot at k13
        unfold cagg cblk
        have hk := Blk.below HK8.out hC hlt8
        obtain ⟨x0, x1, x2, x3, x4, x5, x6, x7⟩ := cblk_cells hk
        go_simp
      · refine owed_val _ rfl rfl (fun _ => rfl) fun fr w hC hK => ?_
        have k3 : slot fr 3 = .pointer (some ⟨W.heap.size, 0, none⟩) := known_out hK 3 (by kernel_rfl)
        clear hK
        unfold slot at k3
        unfold cagg cblk
        have hk := Blk.below HK.out hC hlt
        obtain ⟨x0, x1, x2, x3, x4, x5, x6, x7⟩ := cblk_cells hk
        go_simp
      · exact owed_move rfl rfl (.inl rfl) fun fr w _ hK => known_out hK 10 (by kernel_rfl)
      · refine owed_plain rfl rfl fun fr w hC hK K hk => ?_
        have k64 : slot fr 64 = cagg F s := known_in hK 64 (by kernel_rfl)
        have k65 : slot fr 65 = .int .i64 Vo := known_in hK 65 (by kernel_rfl)
        clear hK
        unfold slot at k64 k65
        go_simp
        refine (project_c F s Vo w ((HRC.out.below hC).more hC.size) HOK.out hvo).mono ?_
        rintro e w' ⟨s1, rfl, hr1, hb1⟩
        exact hk _ _ hb1 ⟨s1, rfl, hr1⟩
      · refine owed_plain rfl rfl fun fr w hC hK K hk => ?_
        have k63 : slot fr 63 = cagg (project F Vo) s7 := known_in hK 63 (by kernel_rfl)
        have k66 := known_in hK 66 (by kernel_rfl)
        clear hK
        unfold slot at k63
        obtain ⟨s66, e66, r66⟩ := k66
        unfold slot at e66
        go_simp
        refine (samec_any (project F Vo) (project F Vo) s7 s66 w ((HRC7.out.below hC).more hC.size) r66 (project_ok HOK.out Vo).2.2.1 (project_ok HOK.out Vo).2.2.1).mono ?_
        rintro e w' ⟨rfl, hb1⟩
        exact hk _ _ hb1 (congrArg Value.bool (decide_eq_true rfl))
      · exact owed_move rfl rfl (.inr rfl) fun fr w _ hK => known_in hK 67 (by kernel_rfl)
      intro vs w9 hg hgood
      have h16 : vs 16 = .bool true := hgood.2.2.2.2.2.1
      clear hgood
      simp only [putsOf]
      rw [h16]
      go_simp
      have hb9 : Below w8.heap.size w8 w9 := hg
      replace hlt := Nat.lt_of_lt_of_le hlt hb9.size
      replace hlt8 := Nat.lt_of_lt_of_le hlt8 hb9.size
      replace HK := Lib.hid (HK.out.below hb9 HK.out.lt)
      replace HK8 := Lib.hid (HK8.out.below hb9 HK8.out.lt)
      replace HRC := Lib.hid ((HRC.out.below hb9).more hb9.size)
      replace HR4 := Lib.hid ((HR4.out.below hb9).more hb9.size)
      replace HX5 := Lib.hid ((HX5.out.below hb9).more hb9.size)
      replace HRC7 := Lib.hid ((HRC7.out.below hb9).more hb9.size)
      replace HR7 := Lib.hid ((HR7.out.below hb9).more hb9.size)
      replace hbw := hbw.trans (hb9.mono hbw.size)
      clear hb9
      clear hg
      have hput := put_c (project F Vo) s7 Vo A7 n7 c7 (ol ++ sl) S7 w9 HRC7.out (project_ok HOK.out Vo) HR7.out hn7 hc7 (by omega) HOL.out hvo
      rw [HO2.out] at hput
      have HPU := Lib.hid hput
      unfold cagg cblk at HPU
      clear hput
      obtain ⟨j0, j1, j2, j3, j4, j5, j6, j7⟩ := cblk_cells HK8.out
      go_wp2_with fail
      refine HPU.out.mono ?_
      rintro e w10 ⟨v10, rfl, hown10, hb10⟩
      simp only [HM.out] at hown10
      obtain ⟨A10, c10, rfl, hc10, hc102⟩ := slice_of_own hown10
      have HX10 := Lib.hid (Rd.of_own hown10)
      replace hlt := Nat.lt_of_lt_of_le hlt hb10.size
      clear hown10 HPU j0 j1 j2 j3 j4 j5 j6 j7 HK8 hlt8 HR7 HRC7
      replace HK := Lib.hid (HK.out.below hb10 HK.out.lt)
      replace HRC := Lib.hid ((HRC.out.below hb10).more hb10.size)
      replace HR4 := Lib.hid ((HR4.out.below hb10).more hb10.size)
      replace HX5 := Lib.hid ((HX5.out.below hb10).more hb10.size)
      replace hbw := hbw.trans (hb10.mono hbw.size)
      clear hb10
      have HT := Lib.hid (take_c A10 m c10 pb V w10 HPB.out HX10.out hc10 hc102 hvI)
      go_wp2_with fail
      refine HT.out.mono ?_
      rintro e w11 ⟨s11, u11, rfl, hrc11, hrow11, hb11⟩
      rw [HTK.out] at hrc11 hrow11
      rw [HTK.out]
      obtain ⟨A11, n11, c11, S11, rfl, hn11, hc11, hr11⟩ := hrow11
      simp only [] at hr11 hrc11
      have HRC11 := Lib.hid hrc11
      have HR11 := Lib.hid hr11
      replace HK := Lib.hid (HK.out.below hb11 HK.out.lt)
      replace HRC := Lib.hid ((HRC.out.below hb11).more hb11.size)
      replace HR4 := Lib.hid ((HR4.out.below hb11).more hb11.size)
      replace HX5 := Lib.hid ((HX5.out.below hb11).more hb11.size)
      replace HX10 := Lib.hid ((HX10.out.below hb11).more hb11.size)
      replace hbw := hbw.trans (hb11.mono hbw.size)
      clear hb11
      clear hrc11 hr11 HT
      obtain ⟨w12, hw12, hk12, hb12, hs12⟩ := box_cmd w11 F s11 24
      have HW12 := Lib.hid hw12
      have HK12 := Lib.hid hk12
      replace HK := Lib.hid (HK.out.below hb12 HK.out.lt)
      replace HRC := Lib.hid ((HRC.out.below hb12).more hb12.size)
      replace HR4 := Lib.hid ((HR4.out.below hb12).more hb12.size)
      replace HX5 := Lib.hid ((HX5.out.below hb12).more hb12.size)
      replace HX10 := Lib.hid ((HX10.out.below hb12).more hb12.size)
      replace HRC11 := Lib.hid ((HRC11.out.below hb12).more hb12.size)
      replace HR11 := Lib.hid ((HR11.out.below hb12).more hb12.size)
      replace hbw := hbw.trans (hb12.mono hbw.size)
      clear hb12
      clear hw12 hk12
      obtain ⟨k0, k1, k2, k3, k4, k5, k6, k7⟩ := cblk_cells HK.out
      obtain ⟨j0, j1, j2, j3, j4, j5, j6, j7⟩ := cblk_cells HK12.out
      have HSM := Lib.hid (samec_any F F s11 s w12 HRC11.out HRC.out HOK.out.2.2.1 HOK.out.2.2.1)
      unfold cagg cblk at *
      go_upto_region 13 with fail
      rw [← HW12.out]
      go_wp2_with fail
      refine HSM.out.mono ?_
      rintro e w13 ⟨rfl, hb13⟩
      first | rw [decide_eq_true (rfl : F = F)] | simp only [decide_true]
      replace HR4 := Lib.hid ((HR4.out.below hb13).more hb13.size)
      replace HR11 := Lib.hid ((HR11.out.below hb13).more hb13.size)
      replace HX5 := Lib.hid ((HX5.out.below hb13).more hb13.size)
      replace HX10 := Lib.hid ((HX10.out.below hb13).more hb13.size)
      replace hbw := hbw.trans (hb13.mono hbw.size)
      clear hb13
      clear HSM k0 k1 k2 k3 k4 k5 k6 k7 j0 j1 j2 j3 j4 j5 j6 j7
      go_wp2_with fail
      refine (same_any A11 A4 n11 n4 c11 c4 w13.heap.size sl sl S11 S4 w13 HR11.out HR4.out hn11 hc11 hn4 hc4 HWF.out HWF.out).mono ?_
      rintro e w14 ⟨d, rfl, hd, hb14⟩
      obtain rfl : d = true := hd.2 rfl
      replace HX5 := Lib.hid ((HX5.out.below hb14).more hb14.size)
      replace HX10 := Lib.hid ((HX10.out.below hb14).more hb14.size)
      replace hbw := hbw.trans (hb14.mono hbw.size)
      clear hb14
      clear hd
      have s1 := run_str (P := Try.prog) w14 25 9 5 Try.underlying25 Try.underlying5 Try.underlying9 HX5.out c5
      have s2 := run_str (P := Try.prog) w14 25 9 5 Try.underlying25 Try.underlying5 Try.underlying9 HX10.out c10
      go_wp2
      go_ret
      exact ⟨rfl, hbw⟩
end Go.Proofs.Ytkagonijkalicaa
