/-
  The walk of the law that any command, with any fields of a later version, is laid down as the reference says, or refused.
-/
import Derived.Test.YtkagonijkalicaaMgQ
import Derived.Test.YtkagonijkalicaaTlSame
set_option linter.unusedVariables false
set_option linter.unusedSimpArgs false
namespace Go.Proofs.Ytkagonijkalicaa
open Go.RowKit
open Cm (Cmd need mayC putC takeC project chunksB unchunk)
open Tl (Fel)

set_option maxHeartbeats 8000000 in
set_option maxRecDepth 100000 in
theorem cputs_any (c : Cmd) (s : Option Addr × Nat) (A : Option Addr) (n cc : Nat) (l : List Fel) (S : List (Option Addr × Nat)) (v : Int) (W : World) (h : RdC W W.heap.size c s) (hc : Cok (fewC c)) (ht : c.text.length ≤ 9223372036854775807)
    (hr : RdF W W.heap.size A n l S) (hnc : n ≤ cc) (hmax : cc ≤ 9223372036854775807) (hl : ∀ f ∈ someL l, Fok f) (hv : I64 v) :
    Calls Try.prog 4 #[cagg c s, .slice A n cc, .int .i64 v] W fun e w' => e = .returned (.bool true) ∧ Below W.heap.size W w' := by
  obtain ⟨w0, hw0, hk0, hb0, hs0⟩ := box_cmd W c s 24
  have hfew := fun w' (h' : RdC w' w'.heap.size c s) => fewc_same c s w' h' ht
  have hsome := fun w' (h' : RdF w' w'.heap.size A n l S) => some_any A n cc l S w' h' hnc hmax
  have hrF : ∀ w', Below W.heap.size W w' → RdC w' w'.heap.size (fewC c) s := fun w' hb' => few_rd h hb'
  obtain ⟨F, hF⟩ : ∃ F, fewC c = F := ⟨_, rfl⟩
  have hll := someL_len l
  obtain ⟨sl, hsl⟩ : ∃ sl, someL l = sl := ⟨_, rfl⟩
  rw [hF] at hc hfew hrF
  rw [hsl] at hl hll hsome
  obtain ⟨pb, hpb⟩ : ∃ pb, (putC F sl v).1 = pb := ⟨_, rfl⟩
  obtain ⟨pe, hpe⟩ : ∃ pe, (putC F sl v).2 = pe := ⟨_, rfl⟩
  obtain ⟨m, hm⟩ : ∃ m, pb.length = m := ⟨_, rfl⟩
  have HFEW := Lib.hid hfew
  have HSOME := Lib.hid hsome
  have HRF := Lib.hid hrF
  have HOK := Lib.hid hc
  have HLO := Lib.hid hl
  have HPB := Lib.hid hpb
  have HPE := Lib.hid hpe
  have HM := Lib.hid hm
  have HK := Lib.hid hk0
  have HW := Lib.hid hw0
  have HRC := Lib.hid ((h.below hb0).more (Nat.le_of_lt hs0))
  have HR := Lib.hid ((hr.below hb0).more (Nat.le_of_lt hs0))
  have hbw := hb0
  obtain ⟨k0, k1, k2, k3, k4, k5, k6, k7⟩ := cblk_cells hk0
  clear hw0 hk0 h hc hr hl hfew hrF hF hsl hpb hpe hm hb0 hsome
  unfold cagg cblk at *
  go_enter Try.func4, Try.ntmps4
  go_upto_region 1 with fail
  rw [← HW.out]
  go_wp2_with fail
  refine (cshown_any w0).mono ?_
  rintro e w1 ⟨rfl, hb1⟩
  have hlt1 : W.heap.size < w1.heap.size := Nat.lt_of_lt_of_le hs0 hb1.size
  clear k0 k1 k2 k3 k4 k5 k6 k7
  replace HK := Lib.hid (HK.out.below hb1 HK.out.lt)
  replace HRC := Lib.hid ((HRC.out.below hb1).more hb1.size)
  replace HR := Lib.hid ((HR.out.below hb1).more hb1.size)
  replace hbw := hbw.trans (hb1.mono hbw.size)
  clear hb1
  obtain ⟨k0, k1, k2, k3, k4, k5, k6, k7⟩ := cblk_cells HK.out
  go_wp2_with fail
  refine (HFEW.out w1 HRC.out).mono ?_
  rintro e w2 ⟨rfl, hb2⟩
  have hlt2 := Nat.lt_of_lt_of_le hlt1 hb2.size
  clear hlt1 k0 k1 k2 k3 k4 k5 k6 k7
  replace HK := Lib.hid (HK.out.below hb2 HK.out.lt)
  replace HRC := Lib.hid ((HRC.out.below hb2).more hb2.size)
  replace HR := Lib.hid ((HR.out.below hb2).more hb2.size)
  replace hbw := hbw.trans (hb2.mono hbw.size)
  clear hb2
  go_wp2_with fail
  refine (HSOME.out w2 HR.out).mono ?_
  rintro e w3 ⟨v3, rfl, ⟨A3, n3, c3, S3, rfl, hn3, hc3, hr3⟩, hb3⟩
  have HR3 := Lib.hid hr3
  have hl3 := hr3.1
  have hlt3 := Nat.lt_of_lt_of_le hlt2 hb3.size
  have hn20 : n3 ≤ 20 := by omega
  clear hlt2 hr3 hl3
  replace HK := Lib.hid (HK.out.below hb3 HK.out.lt)
  replace HRC := Lib.hid ((HRC.out.below hb3).more hb3.size)
  replace HR := Lib.hid ((HR.out.below hb3).more hb3.size)
  replace hbw := hbw.trans (hb3.mono hbw.size)
  clear hb3
  have HPU := Lib.hid (put_c F s v A3 n3 c3 sl S3 w3 (HRF.out w3 hbw) HOK.out HR3.out hn3 hc3 (by omega) HLO.out hv)
  unfold cagg cblk at HPU
  go_wp2_with fail
  refine HPU.out.mono ?_
  rintro e w4 ⟨v4, rfl, hown4, hb4⟩
  rw [HPB.out] at hown4
  rw [HM.out] at hown4
  rw [HPE.out]
  obtain ⟨A4, c4, rfl, hc4, hc42⟩ := slice_of_own hown4
  have HX4 := Lib.hid (Rd.of_own hown4)
  have hlt4 := Nat.lt_of_lt_of_le hlt3 hb4.size
  clear hlt3 hown4 HPU HR3
  replace HK := Lib.hid (HK.out.below hb4 HK.out.lt)
  replace HRC := Lib.hid ((HRC.out.below hb4).more hb4.size)
  replace HR := Lib.hid ((HR.out.below hb4).more hb4.size)
  replace hbw := hbw.trans (hb4.mono hbw.size)
  clear hb4
  obtain ⟨k0, k1, k2, k3, k4, k5, k6, k7⟩ := cblk_cells HK.out
  go_wp2_with fail
  refine (HFEW.out w4 HRC.out).mono ?_
  rintro e w5 ⟨rfl, hb5⟩
  have hlt5 := Nat.lt_of_lt_of_le hlt4 hb5.size
  clear hlt4 k0 k1 k2 k3 k4 k5 k6 k7
  replace HK := Lib.hid (HK.out.below hb5 HK.out.lt)
  replace HRC := Lib.hid ((HRC.out.below hb5).more hb5.size)
  replace HR := Lib.hid ((HR.out.below hb5).more hb5.size)
  replace HX4 := Lib.hid ((HX4.out.below hb5).more hb5.size)
  replace hbw := hbw.trans (hb5.mono hbw.size)
  clear hb5
  go_wp2_with fail
  refine (HSOME.out w5 HR.out).mono ?_
  rintro e w6 ⟨v6, rfl, ⟨A6, n6, c6, S6, rfl, hn6, hc6, hr6⟩, hb6⟩
  have HR6 := Lib.hid hr6
  have hl6 := hr6.1
  have hn26 : n6 ≤ 20 := by omega
  clear hr6 hl6
  replace HX4 := Lib.hid ((HX4.out.below hb6).more hb6.size)
  replace hbw := hbw.trans (hb6.mono hbw.size)
  clear hb6
  have HPU := Lib.hid (rputc_any F s v A6 n6 c6 sl S6 w6 (HRF.out w6 hbw) HOK.out HR6.out hn6 hc6 (by omega) HLO.out hv.1 hv.2)
  unfold cagg cblk at HPU
  go_wp2_with fail
  refine HPU.out.mono ?_
  rintro e w7 ⟨v7, rfl, hown7, hb7⟩
  rw [HPB.out] at hown7
  rw [HM.out] at hown7
  rw [HPE.out]
  obtain ⟨A7, c7, rfl, hc7, hc72⟩ := slice_of_own hown7
  have HX7 := Lib.hid (Rd.of_own hown7)
  clear hown7 HPU HR6
  replace HX4 := Lib.hid ((HX4.out.below hb7).more hb7.size)
  replace hbw := hbw.trans (hb7.mono hbw.size)
  clear hb7
  have s1 := run_str (P := Try.prog) w7 25 9 5 Try.underlying25 Try.underlying5 Try.underlying9 HX4.out c4
  have s2 := run_str (P := Try.prog) w7 25 9 5 Try.underlying25 Try.underlying5 Try.underlying9 HX7.out c7
  go_wp2
  go_ret
  exact ⟨rfl, hbw⟩
end Go.Proofs.Ytkagonijkalicaa
