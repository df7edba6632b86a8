/-
  The walk of the law that a command that was laid down is taken as it was, and that bytes that are a command are those that it is laid down as.
-/
import Derived.Test.YtkagonijkalicaaMgQ
import Derived.Test.YtkagonijkalicaaCmOlder
import Derived.Test.YtkagonijkalicaaTlSame
set_option linter.unusedVariables false
set_option linter.unusedSimpArgs false
namespace Go.Proofs.Ytkagonijkalicaa
open Go.RowKit
open Cm (Cmd need mayC putC takeC project chunksB unchunk noCmd)
open Tl (Fel)

set_option maxHeartbeats 8000000 in
set_option maxRecDepth 100000 in
theorem cback_any (c : Cmd) (s : Option Addr × Nat) (A : Option Addr) (n cc : Nat) (l : List Fel) (S : List (Option Addr × Nat)) (ver : Int) (Ab : Option Addr) (nb cb : Nat) (bs : List Nat) (W : World) (h : RdC W W.heap.size c s) (hc : Cok (fewC c)) (ht : c.text.length ≤ 9223372036854775807)
    (hr : RdF W W.heap.size A n l S) (hnc : n ≤ cc) (hmax : cc ≤ 9223372036854775807) (hl : ∀ f ∈ someL l, Fok f) (hver : 0 ≤ ver ∧ ver ≤ 255) (hb : ∀ c ∈ bs, c < 256) (hrb : Rd W W.heap.size 1 Ab nb (bvs bs)) (hnb : nb ≤ cb) (hmb : cb ≤ 9223372036854775807) :
    Calls Try.prog 6 #[cagg c s, .agg #[.slice A n cc, .int .u8 ver], .slice Ab nb cb] W fun e w' => e = .returned (.bool true) ∧ Below W.heap.size W w' := by
  obtain ⟨i0, hi, hz0, hz1, hz2⟩ := info_parts byte_info
  obtain ⟨w0', hw0', hk0', hb0', hs0'⟩ := box_cmd W c s 24
  obtain ⟨w0, hw0⟩ : ∃ w0 : World, w0 = w0'.alloc (.cells #[.slice A n cc, .int .u8 ver] 49) := ⟨_, rfl⟩
  have hsz0 : w0'.heap.size = W.heap.size + 1 := by rw [hw0']; simp
  have hkx : Blk w0 (W.heap.size + 1) 49 #[.slice A n cc, .int .u8 ver] := by rw [hw0, ← hsz0]; exact Blk.new _ _ _
  have hk0 : Blk w0 W.heap.size 24 (cblk c s) := by rw [hw0]; exact hk0'.alloc _
  have hb0 : Below W.heap.size W w0 := by rw [hw0]; exact hb0'.alloc (Nat.le_of_lt hs0') _
  have hs0 : W.heap.size < w0.heap.size := hk0.lt
  have hfew := fun w' (h' : RdC w' w'.heap.size c s) => fewc_same c s w' h' ht
  have hsome := fun w' (h' : RdF w' w'.heap.size A n l S) => some_any A n cc l S w' h' hnc hmax
  have hrF : ∀ w', Below W.heap.size W w' → RdC w' w'.heap.size (fewC c) s := fun w' hb' => few_rd h hb'
  obtain ⟨F, hF⟩ : ∃ F, fewC c = F := ⟨_, rfl⟩
  have hll := someL_len l
  obtain ⟨sl, hsl⟩ : ∃ sl, someL l = sl := ⟨_, rfl⟩
  rw [hF] at hc hfew hrF
  rw [hsl] at hl hll hsome
  obtain ⟨V, hV⟩ : ∃ V : Int, 1 + ver % 3 = V := ⟨_, rfl⟩
  have hV13 : 1 ≤ V ∧ V ≤ 3 := by omega
  have hvI : I64 V := by unfold I64; omega
  have hvR : Cm.inR V 1 3 = true := Cm.inR_iff.2 hV13
  obtain ⟨pb, pe, hp⟩ : ∃ pb pe, putC F sl V = (pb, pe) := ⟨_, _, rfl⟩
  have HV := Lib.hid hV
  have HVR := Lib.hid hvR
  have HFEW := Lib.hid hfew
  have HSOME := Lib.hid hsome
  have HRF := Lib.hid hrF
  have HOK := Lib.hid hc
  have HLO := Lib.hid hl
  have HP := Lib.hid hp
  have HK := Lib.hid hk0
  have HKX := Lib.hid hkx
  have HW := Lib.hid (show w0 = (W.alloc (.cells (cblk c s) 24)).alloc (.cells #[.slice A n cc, .int .u8 ver] 49) by rw [hw0, hw0'])
  have HRC := Lib.hid ((h.below hb0).more (Nat.le_of_lt hs0))
  have HR := Lib.hid ((hr.below hb0).more (Nat.le_of_lt hs0))
  obtain ⟨L, hL⟩ : ∃ L, min nb 3000 = L := ⟨_, rfl⟩
  have hL2 : L ≤ nb ∧ L ≤ 3000 := by omega
  have hrb2 := hrb.bytes_to hL2.1
  have hbx : ∀ c ∈ bs.take L, c < 256 := fun c hc => hb c (List.mem_of_mem_take hc)
  obtain ⟨xs, hxs⟩ : ∃ xs, bs.take L = xs := ⟨_, rfl⟩
  rw [hxs] at hrb2 hbx
  have hshort := fun w' => short5_any Ab nb cb w' hnb hmb
  rw [hL] at hshort
  have HSH := Lib.hid hshort
  have HRX0 := Lib.hid hrb2
  have HRX := Lib.hid ((hrb2.below hb0).more (Nat.le_of_lt hs0))
  have HBX := Lib.hid hbx
  have HR0 := Lib.hid hr
  clear hL hrb2 hbx hxs hshort hb hrb
  have hbw := hb0
  obtain ⟨k0, k1, k2, k3, k4, k5, k6, k7⟩ := cblk_cells hk0
  clear hw0 hk0 hkx h hc hr hl hfew hrF hF hsl hp hb0 hsome hw0' hk0' hb0' hs0' hsz0 hV hvR
  unfold cagg cblk at *
  go_enter Try.func6, Try.ntmps6
  go_upto_region 1 with fail
  rw [← HW.out]
  go_wp2_with fail
  refine (cshown_any w0).mono ?_
  rintro e w1 ⟨rfl, hb1⟩
  have hlt1 : W.heap.size < w1.heap.size := Nat.lt_of_lt_of_le hs0 hb1.size
  clear k0 k1 k2 k3 k4 k5 k6 k7
  replace HK := Lib.hid (HK.out.below hb1 HK.out.lt)
  replace HKX := Lib.hid (HKX.out.below hb1 HKX.out.lt)
  replace HRC := Lib.hid ((HRC.out.below hb1).more hb1.size)
  replace HR := Lib.hid ((HR.out.below hb1).more hb1.size)
  replace HRX := Lib.hid ((HRX.out.below hb1).more hb1.size)
  replace hbw := hbw.trans (hb1.mono hbw.size)
  clear hb1
  obtain ⟨k0, k1, k2, k3, k4, k5, k6, k7⟩ := cblk_cells HK.out
  go_wp2_with fail
  refine (HFEW.out w1 HRC.out).mono ?_
  rintro e w2 ⟨rfl, hb2⟩
  have hlt2 := Nat.lt_of_lt_of_le hlt1 hb2.size
  clear hlt1 k0 k1 k2 k3 k4 k5 k6 k7
  replace HK := Lib.hid (HK.out.below hb2 HK.out.lt)
  replace HKX := Lib.hid (HKX.out.below hb2 HKX.out.lt)
  replace HR := Lib.hid ((HR.out.below hb2).more hb2.size)
  replace HRX := Lib.hid ((HRX.out.below hb2).more hb2.size)
  replace hbw := hbw.trans (hb2.mono hbw.size)
  clear hb2
  obtain ⟨k0, k1, k2, k3, k4, k5, k6, k7⟩ := cblk_cells HK.out
  obtain ⟨z0, z1, z2, z3, z4, z5, z6, z7⟩ := frozen_facts HK.out
  obtain ⟨h1, h2⟩ := blk_set8 HK.out (.int .i64 F.kind) (.int .i64 F.client) (.int .i64 F.seq) (.int .i64 F.set) (.int .i64 F.id) (.int .i64 F.n) (.slice s.1 F.chunks.length s.2) (.string (strOf F.text))
  obtain ⟨w3, hw3⟩ : ∃ w3, w3 = ((((((((w2.setCell ⟨W.heap.size, 0, none⟩ (.int .i64 F.kind)).setCell ⟨W.heap.size, 1, none⟩ (.int .i64 F.client)).setCell ⟨W.heap.size, 2, none⟩ (.int .i64 F.seq)).setCell ⟨W.heap.size, 3, none⟩ (.int .i64 F.set)).setCell ⟨W.heap.size, 4, none⟩ (.int .i64 F.id)).setCell ⟨W.heap.size, 5, none⟩ (.int .i64 F.n)).setCell ⟨W.heap.size, 6, none⟩ (.slice s.1 F.chunks.length s.2)).setCell ⟨W.heap.size, 7, none⟩ (.string (strOf F.text))) := ⟨_, rfl⟩
  rw [← hw3] at h1 h2
  have hbx3 : Below W.heap.size W w3 := hbw.grown h2 (Nat.le_of_lt hlt2) (fun k hk => by injection hk with hk; omega)
  have HW3 := Lib.hid hw3
  replace HK := Lib.hid (show Blk w3 W.heap.size 24 (cblk F s) from h1)
  replace HKX := Lib.hid (show Blk w3 (W.heap.size + 1) 49 #[.slice A n cc, .int .u8 ver] from (h2.block _ HKX.out.lt (by simp)).trans HKX.out)
  replace HRC := Lib.hid (HRF.out w3 hbx3)
  have hlt : W.heap.size < w3.heap.size := h1.lt
  replace HR := Lib.hid ((HR0.out.below hbx3).more hbx3.size)
  replace HRX := Lib.hid ((HRX0.out.below hbx3).more hbx3.size)
  replace hbw := hbx3
  clear hw3 h1 h2 hbx3 HRF HFEW hlt2
  go_upto_region 3 with fail
  rw [← HW3.out]
  clear k0 k1 k2 k3 k4 k5 k6 k7 z0 z1 z2 z3 z4 z5 z6 z7 HW3
  have x0 := HKX.out.cell 0
  have x1 := HKX.out.cell 1
  simp at x0 x1
  go_cut [8] (fun b wx => b = .int .i64 V ∧ wx = w3)
  case first =>
    go_wp2
    go_meet
    case rel => exact ⟨by rw [HV.out], rfl⟩
  case rest =>
    obtain ⟨rfl, hwc⟩ := hcut
    have hwc := hwc.symm
    subst hwc
    go_wp2_with fail
    refine (HSOME.out w3 HR.out).mono ?_
    rintro e w4 ⟨v4, rfl, ⟨A4, n4, c4, S4, rfl, hn4, hc4, hr4⟩, hb4⟩
    have HR4 := Lib.hid hr4
    have hl4 := hr4.1
    have hn20 : n4 ≤ 20 := by omega
    have hlt4 := Nat.lt_of_lt_of_le hlt hb4.size
    clear hlt hr4 hl4 x0 x1 HSOME HKX
    replace HK := Lib.hid (HK.out.below hb4 HK.out.lt)
    replace HRC := Lib.hid ((HRC.out.below hb4).more hb4.size)
    replace HRX := Lib.hid ((HRX.out.below hb4).more hb4.size)
    replace hbw := hbw.trans (hb4.mono hbw.size)
    clear hb4
    go_wp2_with fail
    refine (HSH.out w4).mono ?_
    rintro e w4' ⟨rfl, rfl⟩
    clear HSH
    obtain ⟨k0, k1, k2, k3, k4, k5, k6, k7⟩ := cblk_cells HK.out
    have hput := put_c F s V A4 n4 c4 sl S4 w4 HRC.out HOK.out HR4.out hn4 hc4 (by omega) HLO.out hvI
    rw [HP.out] at hput
    have HPU := Lib.hid hput
    unfold cagg cblk at HPU
    clear hput
    go_wp2_with fail
    refine HPU.out.mono ?_
    rintro e w5 ⟨v5, rfl, hown5, hb5⟩
    obtain ⟨m, hm⟩ : ∃ m, pb.length = m := ⟨_, rfl⟩
    have HM := Lib.hid hm
    rw [hm] at hown5
    obtain ⟨A5, c5, rfl, hc5, hc52⟩ := slice_of_own hown5
    have HX5 := Lib.hid (Rd.of_own hown5)
    have hlt5 := Nat.lt_of_lt_of_le hlt4 hb5.size
    clear hlt4 hown5 HPU k0 k1 k2 k3 k4 k5 k6 k7 hm
    replace HK := Lib.hid (HK.out.below hb5 HK.out.lt)
    replace HRC := Lib.hid ((HRC.out.below hb5).more hb5.size)
    replace HRX := Lib.hid ((HRX.out.below hb5).more hb5.size)
    replace HR4 := Lib.hid ((HR4.out.below hb5).more hb5.size)
    replace hbw := hbw.trans (hb5.mono hbw.size)
    clear hb5
    go_upto_if 43 with fail
    go_cut [] (fun wx => Below w5.heap.size w5 wx)
    case first =>
      by_cases he : pe = 0
      · subst he
        have hm16 : m ≤ 16384 := by rw [← HM.out]; exact putC_len HP.out
        have hpbb := putC_byte (v := V) HOK.out HLO.out
        rw [HP.out] at hpbb
        have HPB := Lib.hid hpbb
        have HTK := Lib.hid (put_back HOK.out HLO.out HP.out)
        have HWF := Lib.hid (show ∀ f ∈ sl, f.wf from fun f hf => (HLO.out f hf).1)
        clear hpbb
        go_wp2_with (at_builtin; refine wpList_append_rd _ rfl (.tmp 45) (.tmp 46) 25 rfl w5.heap.size 5 i0 (.int .u8 0) 1 1 Try.underlying25 hi hz0 hz1 hz2 rfl (by decide) _ 0 [] rfl (World.ownsRow_made (e := 5) w5 #[] 0 (Nat.le_refl _) (by unfold maxLen; omega) rfl) w5.heap.size A5 m c5 (bvs pb) rfl (HX5.out.alloc (Nat.le_refl _) _) (bvs_one _) (by unfold maxLen; omega) (by omega) (by simp) ?_)
        intro v6 w6 hown6 hg6
        have hb6 : Below w5.heap.size w5 w6 := ((Below.refl _ _).alloc (Nat.le_refl _) _).grown hg6 (by simp) (fun k hk => by simp [Value.ownBlock] at hk; omega)
        have hown6' : w6.ownsRow w5.heap.size 5 1 v6 m (bvs pb) := by simpa using hown6
        obtain ⟨A6, c6, rfl, hc6, hc62⟩ := slice_of_own hown6'
        have HX6 := Lib.hid (Rd.of_own hown6')
        clear hown6 hg6 hown6'
        have hbw0 := hbw
        replace hbw : Below w5.heap.size w5 w5 := Below.refl _ _
        replace HK := Lib.hid (HK.out.below hb6 HK.out.lt)
        replace HRC := Lib.hid ((HRC.out.below hb6).more hb6.size)
        replace HR4 := Lib.hid ((HR4.out.below hb6).more hb6.size)
        replace hbw := hbw.trans (hb6.mono hbw.size)
        clear hb6
        have HT := Lib.hid (take_c A6 m c6 pb V w6 HPB.out HX6.out hc6 hc62 hvI)
        go_wp2_with fail
        refine HT.out.mono ?_
        rintro e w7 ⟨s7, u7, rfl, hrc7, hrow7, hb7⟩
        rw [HTK.out] at hrc7 hrow7
        rw [HTK.out]
        obtain ⟨A7, n7, c7, S7, rfl, hn7, hc7, hr7⟩ := hrow7
        simp only [] at hr7 hrc7
        have HRC7 := Lib.hid hrc7
        have HR7 := Lib.hid hr7
        replace HK := Lib.hid (HK.out.below hb7 HK.out.lt)
        replace HRC := Lib.hid ((HRC.out.below hb7).more hb7.size)
        replace HR4 := Lib.hid ((HR4.out.below hb7).more hb7.size)
        replace hbw := hbw.trans (hb7.mono hbw.size)
        clear hb7
        clear hrc7 hr7 HT HX6
        obtain ⟨w8, hw8, hk8, hb8, hs8⟩ := box_cmd w7 F s7 24
        have HW8 := Lib.hid hw8
        have HK8 := Lib.hid hk8
        replace HK := Lib.hid (HK.out.below hb8 HK.out.lt)
        replace HRC := Lib.hid ((HRC.out.below hb8).more hb8.size)
        replace HR4 := Lib.hid ((HR4.out.below hb8).more hb8.size)
        replace HRC7 := Lib.hid ((HRC7.out.below hb8).more hb8.size)
        replace HR7 := Lib.hid ((HR7.out.below hb8).more hb8.size)
        replace hbw := hbw.trans (hb8.mono hbw.size)
        clear hb8
        clear hw8 hk8
        obtain ⟨k0, k1, k2, k3, k4, k5, k6, k7⟩ := cblk_cells HK.out
        obtain ⟨j0, j1, j2, j3, j4, j5, j6, j7⟩ := cblk_cells HK8.out
        have HSM := Lib.hid (samec_any F F s s7 w8 HRC.out HRC7.out HOK.out.2.2.1 HOK.out.2.2.1)
        unfold cagg cblk at *
        go_upto_region 9 with fail
        rw [← HW8.out]
        go_wp2_with fail
        refine HSM.out.mono ?_
        rintro e w9 ⟨rfl, hb9⟩
        first | rw [decide_eq_true (rfl : F = F)] | simp only [decide_true]
        replace HR4 := Lib.hid ((HR4.out.below hb9).more hb9.size)
        replace HR7 := Lib.hid ((HR7.out.below hb9).more hb9.size)
        replace hbw := hbw.trans (hb9.mono hbw.size)
        clear hb9
        clear HSM k0 k1 k2 k3 k4 k5 k6 k7 j0 j1 j2 j3 j4 j5 j6 j7
        go_wp2_with fail
        refine (same_any A4 A7 n4 n7 c4 c7 w9.heap.size sl sl S4 S7 w9 HR4.out HR7.out hn4 hc4 hn7 hc7 HWF.out HWF.out).mono ?_
        rintro e w10 ⟨d, rfl, hd, hb10⟩
        obtain rfl : d = true := hd.2 rfl
        replace hbw := hbw.trans (hb10.mono hbw.size)
        clear hd
        go_wp2
        go_meet
        case rel => exact hbw
      · have q : ((pe : Int) == 0) = false := by rw [beq_eq_false_iff_ne]; omega
        clear he
        go_wp2
        go_meet
        case rel => exact Below.refl _ _
    case rest =>
      obtain ⟨w11, rfl⟩ : ∃ w11, w11 = wc := ⟨_, rfl⟩
      have hb11 : Below w5.heap.size w5 w11 := hcut
      clear hcut HX5 HK HRC HR4
      replace HRX := Lib.hid ((HRX.out.below hb11).more hb11.size)
      replace hbw := hbw.trans (hb11.mono hbw.size)
      clear hb11
      go_wp2_with (at_builtin; refine wpList_append_rd _ rfl (.tmp 70) (.tmp 71) 25 rfl w11.heap.size 5 i0 (.int .u8 0) 1 1 Try.underlying25 hi hz0 hz1 hz2 rfl (by decide) _ 0 [] rfl (World.ownsRow_made (e := 5) w11 #[] 0 (Nat.le_refl _) (by unfold maxLen; omega) rfl) w11.heap.size Ab L cb (bvs xs) rfl (HRX.out.alloc (Nat.le_refl _) _) (bvs_one _) (by unfold maxLen; omega) (by omega) (by simp) ?_)
      intro v12 w12 hown12 hg12
      have hb12 : Below w11.heap.size w11 w12 := ((Below.refl _ _).alloc (Nat.le_refl _) _).grown hg12 (by simp) (fun k hk => by simp [Value.ownBlock] at hk; omega)
      have hown12' : w12.ownsRow w11.heap.size 5 1 v12 L (bvs xs) := by simpa using hown12
      obtain ⟨A12, c12, rfl, hc12, hc122⟩ := slice_of_own hown12'
      have HX12 := Lib.hid (Rd.of_own hown12')
      clear hown12 hg12 hown12'
      replace HRX := Lib.hid ((HRX.out.below hb12).more hb12.size)
      replace hbw := hbw.trans (hb12.mono hbw.size)
      clear hb12
      obtain ⟨C, rl, te, hT3⟩ : ∃ C rl te, takeC xs V = (C, rl, te) := ⟨_, _, _, rfl⟩
      have htk := takeC_ok HBX.out V
      rw [hT3] at htk
      obtain ⟨hCk, hrl, hrn⟩ := htk
      simp only [] at hCk hrl hrn
      have HT3 := Lib.hid hT3
      have HCK := Lib.hid hCk
      have HRL := Lib.hid hrl
      have HT := Lib.hid (take_c A12 L c12 xs V w12 HBX.out HX12.out hc12 hc122 hvI)
      clear hT3 hCk hrl
      go_wp2_with fail
      refine HT.out.mono ?_
      rintro e w13 ⟨s13, u13, rfl, hrc13, hrow13, hb13⟩
      rw [HT3.out] at hrc13 hrow13
      rw [HT3.out]
      obtain ⟨A13, n13, c13, S13, rfl, hn13, hc13, hr13⟩ := hrow13
      simp only [] at hr13 hrc13
      have HRC13 := Lib.hid hrc13
      have HR13 := Lib.hid hr13
      have hl13 := hr13.1
      replace HRX := Lib.hid ((HRX.out.below hb13).more hb13.size)
      replace hbw := hbw.trans (hb13.mono hbw.size)
      clear hb13
      clear hrc13 hr13 HT HX12
      obtain ⟨w14, hw14, hk14, hb14, hs14⟩ := box_cmd w13 C s13 24
      have HW14 := Lib.hid hw14
      replace HRX := Lib.hid ((HRX.out.below hb14).more hb14.size)
      replace HRC13 := Lib.hid ((HRC13.out.below hb14).more hb14.size)
      replace HR13 := Lib.hid ((HR13.out.below hb14).more hb14.size)
      replace hbw := hbw.trans (hb14.mono hbw.size)
      clear hb14
      by_cases he : te = 0
      · subst he
        have hback := take_back HT3.out
        have hput := put_c C s13 V A13 n13 c13 rl S13 w14 HRC13.out HCK.out HR13.out hn13 hc13 (by omega) HRL.out hvI
        rw [hback] at hput
        have hxl : xs.length = L := by have := HRX.out.1; rw [bvs_len] at this; omega
        have HXL := Lib.hid hxl
        have HPU := Lib.hid hput
        obtain ⟨j0, j1, j2, j3, j4, j5, j6, j7⟩ := cblk_cells hk14
        clear hw14 hk14 hput hback hxl
        unfold cagg cblk at *
        go_upto_region 16 with fail
        rw [← HW14.out]
        go_wp2_with fail
        refine HPU.out.mono ?_
        rintro e w15 ⟨v15, rfl, hown15, hb15⟩
        simp only [HXL.out] at hown15
        obtain ⟨A15, c15, rfl, hc15, hc152⟩ := slice_of_own hown15
        have HX15 := Lib.hid (Rd.of_own hown15)
        clear hown15
        replace HRX := Lib.hid ((HRX.out.below hb15).more hb15.size)
        replace hbw := hbw.trans (hb15.mono hbw.size)
        clear hb15
        have s1 := run_str (P := Try.prog) w15 25 9 5 Try.underlying25 Try.underlying5 Try.underlying9 HX15.out c15
        have s2 := run_str (P := Try.prog) w15 25 9 5 Try.underlying25 Try.underlying5 Try.underlying9 HRX.out cb
        go_wp2
        go_ret
        exact ⟨rfl, hbw⟩
      · have hno := take_no (b := xs) (v := V) (by rw [HT3.out]; exact he)
        rw [HT3.out] at hno
        obtain ⟨rfl, rfl⟩ : C = noCmd ∧ rl = [] := hno
        have q : ((te : Int) != 0) = true := by rw [bne_iff_ne]; omega
        obtain rfl : n13 = 0 := by rw [← hl13]; rfl
        have j0 : w14.cell? ⟨w13.heap.size, 0, none⟩ = some (.int .i64 0) := hk14.cell 0
        clear hw14 hk14 he
        unfold cagg cblk at *
        go_upto_region 14 with fail
        rw [← HW14.out]
        go_wp2
        go_ret
        exact ⟨rfl, hbw⟩
end Go.Proofs.Ytkagonijkalicaa
