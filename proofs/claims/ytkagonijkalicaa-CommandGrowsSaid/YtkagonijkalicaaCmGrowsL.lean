/-
  The walk of the law that what may be at a version may be at a greater one.
-/
import Derived.Test.YtkagonijkalicaaMgQ
import Derived.Test.YtkagonijkalicaaCmOlder
set_option linter.unusedVariables false
set_option linter.unusedSimpArgs false
namespace Go.Proofs.Ytkagonijkalicaa
open Go.RowKit
open Cm (Cmd need mayC putC takeC project inR inR_iff)
open Tl (Fel)

theorem grows_plain (c : Cmd) {v : Int} (hv : 1 ≤ v ∧ v ≤ 2) :
    (mayC c v = 0 ∧ mayC c (v + 1) = 0 ∧ 1 ≤ need c.kind ∧ need c.kind ≤ v) ∨ (mayC c v = 10 ∧ v < need c.kind) ∨ (mayC c v = 1 ∧ mayC c (v + 1) = 1 ∧ need c.kind ≤ v) := by
  have h1 : inR v 1 3 = true := inR_iff.2 (by omega)
  have h2 : inR (v + 1) 1 3 = true := inR_iff.2 (by omega)
  have hb := Cm.need_bound c.kind
  by_cases h0 : need c.kind = 0
  · right; right
    unfold mayC
    rw [if_pos (.inr h0), if_pos (.inr h0)]
    exact ⟨rfl, rfl, by omega⟩
  · by_cases hn : v < need c.kind
    · right; left
      unfold mayC
      rw [if_neg (by rw [h1]; simp [h0]), if_pos hn]
      exact ⟨rfl, hn⟩
    · have a1 : mayC c v = if Cm.mayNum c && (Cm.mayChunks c && Cm.mayText c) then 0 else 1 := by unfold mayC; rw [if_neg (by rw [h1]; simp [h0]), if_neg hn]
      have a2 : mayC c (v + 1) = if Cm.mayNum c && (Cm.mayChunks c && Cm.mayText c) then 0 else 1 := by unfold mayC; rw [if_neg (by rw [h2]; simp [h0]), if_neg (by omega)]
      rw [a1, a2]
      split
      · left; exact ⟨rfl, rfl, by omega, by omega⟩
      · right; right; exact ⟨rfl, rfl, by omega⟩
theorem project_twice (c : Cmd) (v : Int) : project (project c v) v = project c v := by unfold project; split <;> rfl
theorem project_whole (c : Cmd) : project c 3 = c := if_neg (by decide)
theorem and_1 (a : Int) (h0 : 0 ≤ a) (h1 : a ≤ 255) : bits .and .u8 a 1 = a % 2 := by
  show IntKind.u8.wrap ((BitVec.ofInt 8 a &&& BitVec.ofInt 8 1).toNat : Int) = _
  have e1 : (BitVec.ofInt 8 a).toNat = (a % 256).toNat := by simp
  have e2 : (BitVec.ofInt 8 1).toNat = 1 := rfl
  have e3 : ∀ n : Nat, n &&& 1 = n % 2 := fun n => Nat.and_two_pow_sub_one_eq_mod n 1
  have e4 : ∀ n : Int, IntKind.u8.wrap n = n % 256 := fun n => by simp [IntKind.wrap, IntKind.bits, IntKind.signed]
  rw [BitVec.toNat_and, e1, e2, e3, e4]
  omega

set_option maxHeartbeats 8000000 in
set_option maxRecDepth 100000 in
theorem cgrows_any (c : Cmd) (s : Option Addr × Nat) (ver : Int) (W : World) (h : RdC W W.heap.size c s) (hc : Cok (fewC c)) (ht : c.text.length ≤ 9223372036854775807) (hver : 0 ≤ ver ∧ ver ≤ 255) :
    Calls Try.prog 8 #[cagg c s, .int .u8 ver] W fun e w' => e = .returned (.bool true) ∧ Below W.heap.size W w' := by
  obtain ⟨w0, hw0, hk0, hb0, hs0⟩ := box_cmd W c s 24
  have hfew := fun w' (h' : RdC w' w'.heap.size c s) => fewc_same c s w' h' ht
  have hrF : ∀ w', Below W.heap.size W w' → RdC w' w'.heap.size (fewC c) s := fun w' hb' => few_rd h hb'
  obtain ⟨F, hF⟩ : ∃ F, fewC c = F := ⟨_, rfl⟩
  rw [hF] at hc hfew hrF
  have HFEW := Lib.hid hfew
  have HRF := Lib.hid hrF
  have HOK := Lib.hid hc
  have HK := Lib.hid hk0
  have HW := Lib.hid hw0
  have HRC := Lib.hid ((h.below hb0).more (Nat.le_of_lt hs0))
  have hbw := hb0
  obtain ⟨k0, k1, k2, k3, k4, k5, k6, k7⟩ := cblk_cells hk0
  clear hw0 hk0 h hc hfew hrF hF hb0
  unfold cagg cblk at *
  go_enter Try.func8, Try.ntmps8
  go_upto_region 1 with fail
  rw [← HW.out]
  go_wp2_with fail
  refine (cshown_any w0).mono ?_
  rintro e w1 ⟨rfl, hb1⟩
  have hlt1 : W.heap.size < w1.heap.size := Nat.lt_of_lt_of_le hs0 hb1.size
  clear k0 k1 k2 k3 k4 k5 k6 k7
  replace HK := Lib.hid (HK.out.below hb1 HK.out.lt)
  replace HRC := Lib.hid ((HRC.out.below hb1).more hb1.size)
  replace hbw := hbw.trans (hb1.mono hbw.size)
  clear hb1
  obtain ⟨k0, k1, k2, k3, k4, k5, k6, k7⟩ := cblk_cells HK.out
  go_wp2_with fail
  refine (HFEW.out w1 HRC.out).mono ?_
  rintro e w2 ⟨rfl, hb2⟩
  have hlt2 := Nat.lt_of_lt_of_le hlt1 hb2.size
  clear hlt1 k0 k1 k2 k3 k4 k5 k6 k7
  replace HK := Lib.hid (HK.out.below hb2 HK.out.lt)
  replace hbw := hbw.trans (hb2.mono hbw.size)
  clear hb2
  obtain ⟨k0, k1, k2, k3, k4, k5, k6, k7⟩ := cblk_cells HK.out
  obtain ⟨z0, z1, z2, z3, z4, z5, z6, z7⟩ := frozen_facts HK.out
  obtain ⟨h1, h2⟩ := blk_set8 HK.out (.int .i64 F.kind) (.int .i64 F.client) (.int .i64 F.seq) (.int .i64 F.set) (.int .i64 F.id) (.int .i64 F.n) (.slice s.1 F.chunks.length s.2) (.string (strOf F.text))
  obtain ⟨w3, hw3⟩ : ∃ w3, w3 = ((((((((w2.setCell ⟨W.heap.size, 0, none⟩ (.int .i64 F.kind)).setCell ⟨W.heap.size, 1, none⟩ (.int .i64 F.client)).setCell ⟨W.heap.size, 2, none⟩ (.int .i64 F.seq)).setCell ⟨W.heap.size, 3, none⟩ (.int .i64 F.set)).setCell ⟨W.heap.size, 4, none⟩ (.int .i64 F.id)).setCell ⟨W.heap.size, 5, none⟩ (.int .i64 F.n)).setCell ⟨W.heap.size, 6, none⟩ (.slice s.1 F.chunks.length s.2)).setCell ⟨W.heap.size, 7, none⟩ (.string (strOf F.text))) := ⟨_, rfl⟩
  rw [← hw3] at h1 h2
  have hbx3 : Below W.heap.size W w3 := hbw.grown h2 (Nat.le_of_lt hlt2) (fun k hk => by injection hk with hk; omega)
  have HW3 := Lib.hid hw3
  replace HK := Lib.hid (show Blk w3 W.heap.size 24 (cblk F s) from h1)
  replace HRC := Lib.hid (HRF.out w3 hbx3)
  have hlt : W.heap.size < w3.heap.size := h1.lt
  replace hbw := hbx3
  clear hw3 h1 h2 hbx3 HRF HFEW hlt2
  go_upto_region 3 with fail
  rw [← HW3.out]
  clear k0 k1 k2 k3 k4 k5 k6 k7 z0 z1 z2 z3 z4 z5 z6 z7 HW3
  obtain ⟨V, hV⟩ : ∃ V : Int, 1 + ver % 2 = V := ⟨_, rfl⟩
  have hV12 : 1 ≤ V ∧ V ≤ 2 := by omega
  have hvI : I64 V := by unfold I64; omega
  have hvI1 : I64 (V + 1) := by unfold I64; omega
  have HV := Lib.hid hV
  clear hV
  go_cut [6] (fun b wx => b = .int .i64 V ∧ wx = w3)
  case first =>
    have hand := and_1 ver hver.1 hver.2
    go_wp2
    go_meet
    case rel => exact ⟨by rw [← HV.out], rfl⟩
  case rest =>
    obtain ⟨rfl, hwc⟩ := hcut
    have hwc := hwc.symm
    subst hwc
    obtain ⟨e0, he0⟩ : ∃ e, mayC F V = e := ⟨_, rfl⟩
    obtain ⟨f0, hf0⟩ : ∃ f, mayC F (V + 1) = f := ⟨_, rfl⟩
    obtain ⟨nd, hnd⟩ : ∃ nd, need F.kind = nd := ⟨_, rfl⟩
    have hpl := grows_plain F hV12
    rw [he0, hf0, hnd] at hpl
    have HPL := Lib.hid hpl
    have HE := Lib.hid he0
    have HF0 := Lib.hid hf0
    have HND := Lib.hid hnd
    have hn3 : 0 ≤ nd ∧ nd ≤ 3 := by rw [← hnd]; exact Cm.need_bound _
    clear hpl he0 hf0 hnd
    obtain ⟨k0, k1, k2, k3, k4, k5, k6, k7⟩ := cblk_cells HK.out
    have HM1 := Lib.hid (may_c F s V w3 HRC.out HOK.out hvI)
    unfold cagg cblk at HM1
    go_wp2_with fail
    refine HM1.out.mono ?_
    rintro e w4 ⟨rfl, hb4⟩
    rw [HE.out]
    replace hlt := Nat.lt_of_lt_of_le hlt hb4.size
    clear k0 k1 k2 k3 k4 k5 k6 k7 HM1
    replace HK := Lib.hid (HK.out.below hb4 HK.out.lt)
    replace HRC := Lib.hid ((HRC.out.below hb4).more hb4.size)
    replace hbw := hbw.trans (hb4.mono hbw.size)
    clear hb4
    obtain ⟨k0, k1, k2, k3, k4, k5, k6, k7⟩ := cblk_cells HK.out
    have HM1 := Lib.hid (may_c F s (V + 1) w4 HRC.out HOK.out hvI1)
    unfold cagg cblk at HM1
    go_wp2_with fail
    refine HM1.out.mono ?_
    rintro e w5 ⟨rfl, hb5⟩
    rw [HF0.out]
    replace hlt := Nat.lt_of_lt_of_le hlt hb5.size
    clear k0 k1 k2 k3 k4 k5 k6 k7 HM1
    replace HK := Lib.hid (HK.out.below hb5 HK.out.lt)
    replace HRC := Lib.hid ((HRC.out.below hb5).more hb5.size)
    replace hbw := hbw.trans (hb5.mono hbw.size)
    clear hb5
    obtain ⟨k0, k1, k2, k3, k4, k5, k6, k7⟩ := cblk_cells HK.out
    go_wp2_with fail
    refine (need_c F.kind w5 HOK.out.1.1).mono ?_
    rintro e w6 ⟨rfl, hb6⟩
    rw [HND.out]
    replace hlt := Nat.lt_of_lt_of_le hlt hb6.size
    clear k0 k1 k2 k3 k4 k5 k6 k7
    replace HK := Lib.hid (HK.out.below hb6 HK.out.lt)
    replace HRC := Lib.hid ((HRC.out.below hb6).more hb6.size)
    replace hbw := hbw.trans (hb6.mono hbw.size)
    clear hb6
    obtain ⟨k0, k1, k2, k3, k4, k5, k6, k7⟩ := cblk_cells HK.out
    obtain ⟨P, hP⟩ : ∃ P, project F V = P := ⟨_, rfl⟩
    have hpj := fun (s' : Option Addr × Nat) (w' : World) (h' : RdC w' w'.heap.size P s') => project_c P s' V w' h' (by rw [← hP]; exact project_ok HOK.out V) hvI
    rw [show project P V = P by rw [← hP]; exact project_twice F V] at hpj
    have hpk := fun (s' : Option Addr × Nat) (w' : World) (h' : RdC w' w'.heap.size F s') => project_c F s' 3 w' h' HOK.out (by simp [I64])
    rw [project_whole] at hpk
    have HPJ := Lib.hid hpj
    have HPK := Lib.hid hpk
    have HPT := Lib.hid (show ∀ b ∈ P.text, b < 256 by rw [← hP]; exact (project_ok HOK.out V).2.2.1)
    have HM1 := Lib.hid (project_c F s V w6 HRC.out HOK.out hvI)
    rw [hP] at HM1
    unfold cagg cblk at HM1
    clear hpj hpk hP
    go_wp2_with fail
    refine HM1.out.mono ?_
    rintro e w7 ⟨s7, rfl, hrc7, hb7⟩
    have HRC7 := Lib.hid hrc7
    replace hlt := Nat.lt_of_lt_of_le hlt hb7.size
    clear k0 k1 k2 k3 k4 k5 k6 k7 hrc7 HM1
    replace HK := Lib.hid (HK.out.below hb7 HK.out.lt)
    replace HRC := Lib.hid ((HRC.out.below hb7).more hb7.size)
    replace hbw := hbw.trans (hb7.mono hbw.size)
    clear hb7
    obtain ⟨gd, hgd⟩ : ∃ gd, gd = w7.heap.size := ⟨_, rfl⟩
    obtain ⟨w8, hw8, hk8, hb8, hs8⟩ := box_cmd w7 P s7 24
    have HW8 := Lib.hid hw8
    rw [← hgd] at hk8
    have HK8 := Lib.hid hk8
    have HGD := Lib.hid hgd
    have hlt8 := hk8.lt
    replace hlt := Nat.lt_of_lt_of_le hlt hb8.size
    replace HK := Lib.hid (HK.out.below hb8 HK.out.lt)
    replace HRC := Lib.hid ((HRC.out.below hb8).more hb8.size)
    replace HRC7 := Lib.hid ((HRC7.out.below hb8).more hb8.size)
    replace hbw := hbw.trans (hb8.mono hbw.size)
    clear hb8
    clear hw8 hk8 hgd
    unfold cagg cblk at *
    go_upto_region 8 with fail
    rw [← HW8.out, ← HGD.out]
    refine wp_region_grew (n := 88) (Say [(33, isv (cagg P s7)), (34, isv (.int .i64 V)), (35, iscmd P), (36, isv (cagg P s7)), (37, isv (.bool true)), (11, isv (.bool true))]) (by kernel_rfl) (by kernel_rfl) rfl ⟨?_, ?_, ?_, ?_, ?_, ?_, trivial⟩ ?_
    · refine owed_val _ rfl rfl (fun _ => rfl) fun fr w hC hK => ?_
      have k10 : slot fr 10 = .pointer (some ⟨gd, 0, none⟩) := known_out hK 10 (by kernel_rfl)
      clear hK
      unfold slot at k10
      unfold cagg cblk
      have hk := Blk.below HK8.out hC hlt8
      obtain ⟨x0, x1, x2, x3, x4, x5, x6, x7⟩ := cblk_cells hk
      go_simp
    · exact owed_move rfl rfl (.inl rfl) fun fr w _ hK => known_out hK 6 (by kernel_rfl)
    · refine owed_plain rfl rfl fun fr w hC hK K hk => ?_
      have k33 : slot fr 33 = cagg P s7 := known_in hK 33 (by kernel_rfl)
      have k34 : slot fr 34 = .int .i64 V := known_in hK 34 (by kernel_rfl)
      clear hK
      unfold slot at k33 k34
      go_simp
      refine (HPJ.out s7 w ((HRC7.out.below hC).more hC.size)).mono ?_
      rintro e w' ⟨s1, rfl, hr1, hb1⟩
      exact hk _ _ hb1 ⟨s1, rfl, hr1⟩
    · refine owed_val _ rfl rfl (fun _ => rfl) fun fr w hC hK => ?_
      have k10 : slot fr 10 = .pointer (some ⟨gd, 0, none⟩) := known_out hK 10 (by kernel_rfl)
      clear hK
      unfold slot at k10
      unfold cagg cblk
      have hk := Blk.below HK8.out hC hlt8
      obtain ⟨x0, x1, x2, x3, x4, x5, x6, x7⟩ := cblk_cells hk
      go_simp
    · refine owed_plain rfl rfl fun fr w hC hK K hk => ?_
      have k35 := known_in hK 35 (by kernel_rfl)
      have k36 : slot fr 36 = cagg P s7 := known_in hK 36 (by kernel_rfl)
      clear hK
      unfold slot at k36
      obtain ⟨s35, e35, r35⟩ := k35
      unfold slot at e35
      go_simp
      refine (samec_any P P s35 s7 w r35 ((HRC7.out.below hC).more hC.size) HPT.out HPT.out).mono ?_
      rintro e w' ⟨rfl, hb1⟩
      exact hk _ _ hb1 (congrArg Value.bool (decide_eq_true rfl))
    · exact owed_move rfl rfl (.inr rfl) fun fr w _ hK => known_in hK 37 (by kernel_rfl)
    intro vs w9 hg hgood
    have h11 : vs 11 = .bool true := hgood.2.2.2.2.2.1
    clear hgood
    simp only [putsOf]
    rw [h11]
    go_simp
    have hb9 : Below w8.heap.size w8 w9 := hg
    replace hlt := Nat.lt_of_lt_of_le hlt hb9.size
    replace HK := Lib.hid (HK.out.below hb9 HK.out.lt)
    replace HRC := Lib.hid ((HRC.out.below hb9).more hb9.size)
    replace hbw := hbw.trans (hb9.mono hbw.size)
    clear hb9
    clear hg
    go_upto_region 9 with fail
    refine wp_region_grew (n := 88) (Say [(38, isv (cagg F s)), (39, iscmd F), (40, isv (cagg F s)), (41, isv (.bool true)), (12, isv (.bool true))]) (by kernel_rfl) (by kernel_rfl) rfl ⟨?_, ?_, ?_, ?_, ?_, trivial⟩ ?_
    · refine owed_val _ rfl rfl (fun _ => rfl) fun fr w hC hK => ?_
      have k2 : slot fr 2 = .pointer (some ⟨W.heap.size, 0, none⟩) := known_out hK 2 (by kernel_rfl)
      clear hK
      unfold slot at k2
      unfold cagg cblk
      have hk := Blk.below HK.out hC hlt
      obtain ⟨x0, x1, x2, x3, x4, x5, x6, x7⟩ := cblk_cells hk
      go_simp
    · refine owed_plain rfl rfl fun fr w hC hK K hk => ?_
      have k38 : slot fr 38 = cagg F s := known_in hK 38 (by kernel_rfl)
      clear hK
      unfold slot at k38
      go_simp
      refine (HPK.out s w ((HRC.out.below hC).more hC.size)).mono ?_
      rintro e w' ⟨s1, rfl, hr1, hb1⟩
      exact hk _ _ hb1 ⟨s1, rfl, hr1⟩
    · refine owed_val _ rfl rfl (fun _ => rfl) fun fr w hC hK => ?_
      have k2 : slot fr 2 = .pointer (some ⟨W.heap.size, 0, none⟩) := known_out hK 2 (by kernel_rfl)
      clear hK
      unfold slot at k2
      unfold cagg cblk
      have hk := Blk.below HK.out hC hlt
      obtain ⟨x0, x1, x2, x3, x4, x5, x6, x7⟩ := cblk_cells hk
      go_simp
    · refine owed_plain rfl rfl fun fr w hC hK K hk => ?_
      have k39 := known_in hK 39 (by kernel_rfl)
      have k40 : slot fr 40 = cagg F s := known_in hK 40 (by kernel_rfl)
      clear hK
      unfold slot at k40
      obtain ⟨s39, e39, r39⟩ := k39
      unfold slot at e39
      go_simp
      refine (samec_any F F s39 s w r39 ((HRC.out.below hC).more hC.size) HOK.out.2.2.1 HOK.out.2.2.1).mono ?_
      rintro e w' ⟨rfl, hb1⟩
      exact hk _ _ hb1 (congrArg Value.bool (decide_eq_true rfl))
    · exact owed_move rfl rfl (.inr rfl) fun fr w _ hK => known_in hK 41 (by kernel_rfl)
    intro vs w10 hg hgood
    have h12 : vs 12 = .bool true := hgood.2.2.2.2.1
    clear hgood
    simp only [putsOf]
    rw [h12]
    go_simp
    have hb10 : Below w9.heap.size w9 w10 := hg
    replace hbw := hbw.trans (hb10.mono hbw.size)
    clear hg hb10
    rcases HPL.out with ⟨rfl, rfl, hx, hy⟩ | ⟨rfl, hx⟩ | ⟨rfl, rfl, hx⟩
    · go_wp2
      go_ret
      exact ⟨rfl, hbw⟩
    · go_wp2
      go_ret
      exact ⟨rfl, hbw⟩
    · go_wp2
      go_ret
      exact ⟨congrArg Ending.returned (by show Value.bool (!decide (V < nd)) = _; rw [decide_eq_false (by omega)]; rfl), hbw⟩
end Go.Proofs.Ytkagonijkalicaa
