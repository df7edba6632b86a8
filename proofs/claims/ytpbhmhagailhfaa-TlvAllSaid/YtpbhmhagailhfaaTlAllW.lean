/-
  The walk of the law that rows of fields are laid down, parted and taken as the reference says.
-/
import Derived.Test.YtpbhmhagailhfaaTlBackW
namespace Go.Proofs.Ytpbhmhagailhfaa
open Go.RowKit
open Tl (Fel may flat putRow takeRow)

theorem takeRow_wf {bs : List Nat} (hb : ∀ c ∈ bs, c < 256) : ∀ f ∈ (takeRow bs).1, f.wf := by
  by_cases h : (takeRow bs).2 = 0
  · obtain ⟨l, hl⟩ : ∃ l, takeRow bs = (l, 0) := ⟨_, Prod.ext rfl h⟩
    rw [hl]
    intro f hf
    exact ((taken_ok hb hl).2.2 f hf).1
  · rw [takeRow_no h]; simp

set_option maxHeartbeats 4000000 in
set_option maxRecDepth 100000 in
theorem tall_any (A : Option Addr) (n c : Nat) (l : List Fel) (S : List (Option Addr × Nat)) (Ab : Option Addr) (nb cb : Nat) (bs : List Nat) (most : Int) (w : World) (h : RdF w w.heap.size A n l S) (hnc : n ≤ c) (hmax : c ≤ 9223372036854775807) (hw : ∀ f ∈ l, Fin f)
    (hb : ∀ c ∈ bs, c < 256) (hrb : Rd w w.heap.size 1 Ab nb (bvs bs)) (hnb : nb ≤ cb) (hmb : cb ≤ 9223372036854775807) (ha0 : -9223372036854775808 ≤ most) (ha1 : most ≤ 9223372036854775807) :
    Calls Try.prog 3 #[.slice A n c, .slice Ab nb cb, .int .i64 most] w fun e w' => e = .returned (.bool true) ∧ Below w.heap.size w w' := by
  obtain ⟨i0, hi, hz0, hz1, hz2⟩ := info_parts byte_info
  have HR := Lib.hid h
  have hok := fewL_ok hw
  have hfl := fewL_len l
  obtain ⟨lf, hlf⟩ : ∃ lf, fewL l = lf := ⟨_, rfl⟩
  obtain ⟨m, hm⟩ : ∃ m, lf.length = m := ⟨_, rfl⟩
  have hm60 : m ≤ 60 := by rw [← hm, ← hlf, hfl]; omega
  rw [hlf] at hok
  have HOK := Lib.hid hok
  have hfew := fun w' (h' : RdF w' w'.heap.size A n l S) => few_row A n c l S w' h' hnc hmax m (by rw [hlf]; exact hm)
  rw [hlf] at hfew
  have HFEW := Lib.hid hfew
  obtain ⟨L, hL⟩ : ∃ L, min nb 17000 = L := ⟨_, rfl⟩
  have hL2 : L ≤ nb ∧ L ≤ 17000 := by omega
  have hrb2 := hrb.bytes_to hL2.1
  have hbx : ∀ c ∈ bs.take L, c < 256 := fun c hc => hb c (List.mem_of_mem_take hc)
  obtain ⟨xs, hxs⟩ : ∃ xs, bs.take L = xs := ⟨_, rfl⟩
  rw [hxs] at hrb2 hbx
  have hshort := fun w' => tshort_any Ab nb cb w' hnb hmb
  rw [hL] at hshort
  have hwf := takeRow_wf hbx
  obtain ⟨tl, htl⟩ : ∃ tl, (takeRow xs).1 = tl := ⟨_, rfl⟩
  obtain ⟨te, hte⟩ : ∃ te, (takeRow xs).2 = te := ⟨_, rfl⟩
  rw [htl] at hwf
  obtain ⟨pb, hpb⟩ : ∃ pb, (putRow lf).1 = pb := ⟨_, rfl⟩
  obtain ⟨pe, hpe⟩ : ∃ pe, (putRow lf).2 = pe := ⟨_, rfl⟩
  obtain ⟨pl, hpl⟩ : ∃ pl, pb.length = pl := ⟨_, rfl⟩
  obtain ⟨la, hla⟩ : ∃ la, lf.filter (fun f => decide (f.num ≤ most)) = la := ⟨_, rfl⟩
  obtain ⟨lb, hlb⟩ : ∃ lb, lf.filter (fun f => !decide (f.num ≤ most)) = lb := ⟨_, rfl⟩
  have HWA := Lib.hid (show ∀ f ∈ la, f.wf from fun f hf => by rw [← hla, List.mem_filter] at hf; exact (hok f hf.1).1)
  have HWB := Lib.hid (show ∀ f ∈ lb, f.wf from fun f hf => by rw [← hlb, List.mem_filter] at hf; exact (hok f hf.1).1)
  obtain ⟨er, her⟩ : ∃ er, may lf = er := ⟨_, rfl⟩
  have HSH := Lib.hid hshort
  have HRX := Lib.hid hrb2
  have HBX := Lib.hid hbx
  have HWT := Lib.hid hwf
  have HTL := Lib.hid htl
  have HTE := Lib.hid hte
  have HPB := Lib.hid hpb
  have HPE := Lib.hid hpe
  have HPL := Lib.hid hpl
  have HLA := Lib.hid hla
  have HLB := Lib.hid hlb
  have HER := Lib.hid her
  clear h hfl hlf hm hok hw hfew hL hrb2 hbx hxs hshort hb hrb hwf htl hte hpb hpe hpl hla hlb her
  go_enter Try.func3, Try.ntmps3
  go_wp2_with fail
  refine (tshown_any w).mono ?_
  rintro e w1 ⟨rfl, hb1⟩
  have hs1 := hb1.size
  go_wp2_with fail
  refine (HFEW.out w1 ((HR.out.below hb1).more hs1)).mono ?_
  rintro e w2 ⟨A2, c2, rfl, hc2, hc22, hr2, _, hb2⟩
  have hbw := hb1.trans (hb2.mono hs1)
  have HR2 := Lib.hid hr2
  replace HRX := Lib.hid ((HRX.out.below hbw).more hbw.size)
  clear hr2 hb1 hb2 hs1 HFEW HR
  go_wp2_with fail
  refine (HSH.out w2).mono ?_
  rintro e w2' ⟨rfl, rfl⟩
  clear HSH
  go_wp2_with fail
  refine (put_row A2 m c2 lf (S.take 60) w2 HR2.out hc2 hc22 (by omega) HOK.out).mono ?_
  rintro e w3 ⟨v3, rfl, hown3, hb3⟩
  rw [HPB.out] at hown3
  rw [HPL.out] at hown3
  rw [HPE.out]
  obtain ⟨A3, c3, rfl, hc3, hc32⟩ := slice_of_own hown3
  have HX3 := Lib.hid (Rd.of_own hown3)
  replace HR2 := Lib.hid ((HR2.out.below hb3).more hb3.size)
  replace HRX := Lib.hid ((HRX.out.below hb3).more hb3.size)
  replace hbw := hbw.trans (hb3.mono hbw.size)
  clear hb3
  clear hown3
  go_wp2_with fail
  refine (rput_row A2 m c2 lf (S.take 60) w3 HR2.out hc2 hc22 (by omega) HOK.out).mono ?_
  rintro e w4 ⟨v4, rfl, hown4, hb4⟩
  rw [HPB.out] at hown4
  rw [HPL.out] at hown4
  rw [HPE.out]
  obtain ⟨A4, c4, rfl, hc4, hc42⟩ := slice_of_own hown4
  have HX4 := Lib.hid (Rd.of_own hown4)
  replace HR2 := Lib.hid ((HR2.out.below hb4).more hb4.size)
  replace HRX := Lib.hid ((HRX.out.below hb4).more hb4.size)
  replace HX3 := Lib.hid ((HX3.out.below hb4).more hb4.size)
  replace hbw := hbw.trans (hb4.mono hbw.size)
  clear hb4
  clear hown4 HPL HPB HPE
  have hs4 := hbw.size
  go_wp2_with (at_builtin; refine wpList_append_rd _ rfl (.tmp 39) (.tmp 40) 23 rfl w4.heap.size 5 i0 (.int .u8 0) 1 1 Try.underlying23 hi hz0 hz1 hz2 rfl (by decide) _ 0 [] rfl (World.ownsRow_made (e := 5) w4 #[] 0 (Nat.le_refl _) (by unfold maxLen; omega) rfl) w4.heap.size Ab L cb (bvs xs) rfl (HRX.out.alloc (Nat.le_refl _) _) (bvs_one _) (by unfold maxLen; omega) (by omega) (by simp) ?_)
  intro v5 w5 hown5 hg5
  have hb5 : Below w4.heap.size w4 w5 := ((Below.refl _ _).alloc (Nat.le_refl _) _).grown hg5 (by simp) (fun k hk => by simp [Value.ownBlock] at hk; omega)
  have hown5' : w5.ownsRow w4.heap.size 5 1 v5 L (bvs xs) := by simpa using hown5
  obtain ⟨A5, c5, rfl, hc5, hc52⟩ := slice_of_own hown5'
  have HX5 := Lib.hid (Rd.of_own hown5')
  replace HR2 := Lib.hid ((HR2.out.below hb5).more hb5.size)
  replace HRX := Lib.hid ((HRX.out.below hb5).more hb5.size)
  replace HX3 := Lib.hid ((HX3.out.below hb5).more hb5.size)
  replace HX4 := Lib.hid ((HX4.out.below hb5).more hb5.size)
  replace hbw := hbw.trans (hb5.mono hbw.size)
  clear hb5
  clear hown5 hg5 hown5'
  go_wp2_with fail
  refine (take_row A5 L c5 xs w5 HBX.out HX5.out hc5 hc52).mono ?_
  rintro e w6 ⟨v6, rfl, hr6, hb6⟩
  rw [HTL.out] at hr6
  rw [HTE.out]
  obtain ⟨A6, n6, c6, S6, rfl, hn6, hc6, hr6⟩ := hr6
  have HR6 := Lib.hid hr6
  replace HR2 := Lib.hid ((HR2.out.below hb6).more hb6.size)
  replace HRX := Lib.hid ((HRX.out.below hb6).more hb6.size)
  replace HX3 := Lib.hid ((HX3.out.below hb6).more hb6.size)
  replace HX4 := Lib.hid ((HX4.out.below hb6).more hb6.size)
  replace hbw := hbw.trans (hb6.mono hbw.size)
  clear hb6
  clear hr6 HX5
  go_wp2_with fail
  refine (rtake_row Ab L cb xs w6 HBX.out HRX.out (by omega) hmb).mono ?_
  rintro e w7 ⟨v7, rfl, hr7, hb7⟩
  rw [HTL.out] at hr7
  rw [HTE.out]
  obtain ⟨A7, n7, c7, S7, rfl, hn7, hc7, hr7⟩ := hr7
  have HR7 := Lib.hid hr7
  replace HR2 := Lib.hid ((HR2.out.below hb7).more hb7.size)
  replace HX3 := Lib.hid ((HX3.out.below hb7).more hb7.size)
  replace HX4 := Lib.hid ((HX4.out.below hb7).more hb7.size)
  replace HR6 := Lib.hid ((HR6.out.below hb7).more hb7.size)
  replace hbw := hbw.trans (hb7.mono hbw.size)
  clear hb7
  clear hr7 HRX HBX HTL HTE
  go_wp2_with fail
  refine (split_row A2 m c2 most lf (S.take 60) w7 HR2.out hc2 hc22 (by omega) HOK.out ⟨ha0, ha1⟩).mono ?_
  rintro e w8 ⟨u8, v8, rfl, hr8, hr8', hb8⟩
  rw [HLA.out] at hr8
  rw [HLB.out] at hr8'
  obtain ⟨A8, n8, c8, S8, rfl, hn8, hc8, hr8⟩ := hr8
  obtain ⟨B8, m8, d8, U8, rfl, hm8, hd8, hr8'⟩ := hr8'
  have HR8 := Lib.hid hr8
  have HQ8 := Lib.hid hr8'
  replace HR2 := Lib.hid ((HR2.out.below hb8).more hb8.size)
  replace HX3 := Lib.hid ((HX3.out.below hb8).more hb8.size)
  replace HX4 := Lib.hid ((HX4.out.below hb8).more hb8.size)
  replace HR6 := Lib.hid ((HR6.out.below hb8).more hb8.size)
  replace HR7 := Lib.hid ((HR7.out.below hb8).more hb8.size)
  replace hbw := hbw.trans (hb8.mono hbw.size)
  clear hb8
  clear hr8 hr8'
  go_wp2_with fail
  refine (rsplit_any A2 m c2 most lf (S.take 60) w8 HR2.out hc2 hc22 (by omega)).mono ?_
  rintro e w9 ⟨u9, v9, rfl, hr9, hr9', hb9⟩
  rw [HLA.out] at hr9
  rw [HLB.out] at hr9'
  obtain ⟨A9, n9, c9, S9, rfl, hn9, hc9, hr9⟩ := hr9
  obtain ⟨B9, m9, d9, U9, rfl, hm9, hd9, hr9'⟩ := hr9'
  have HR9 := Lib.hid hr9
  have HQ9 := Lib.hid hr9'
  replace HR2 := Lib.hid ((HR2.out.below hb9).more hb9.size)
  replace HX3 := Lib.hid ((HX3.out.below hb9).more hb9.size)
  replace HX4 := Lib.hid ((HX4.out.below hb9).more hb9.size)
  replace HR6 := Lib.hid ((HR6.out.below hb9).more hb9.size)
  replace HR7 := Lib.hid ((HR7.out.below hb9).more hb9.size)
  replace HR8 := Lib.hid ((HR8.out.below hb9).more hb9.size)
  replace HQ8 := Lib.hid ((HQ8.out.below hb9).more hb9.size)
  replace hbw := hbw.trans (hb9.mono hbw.size)
  clear hb9
  clear hr9 hr9' HLA HLB
  go_wp2_with fail
  refine (same_any A6 A7 n6 n7 c6 c7 w9.heap.size tl tl S6 S7 w9 HR6.out HR7.out hn6 hc6 hn7 hc7 HWT.out HWT.out).mono ?_
  rintro e w10 ⟨d, rfl, hd, hb10⟩
  obtain rfl : d = true := hd.2 rfl
  replace HR2 := Lib.hid ((HR2.out.below hb10).more hb10.size)
  replace HX3 := Lib.hid ((HX3.out.below hb10).more hb10.size)
  replace HX4 := Lib.hid ((HX4.out.below hb10).more hb10.size)
  replace HR8 := Lib.hid ((HR8.out.below hb10).more hb10.size)
  replace HQ8 := Lib.hid ((HQ8.out.below hb10).more hb10.size)
  replace HR9 := Lib.hid ((HR9.out.below hb10).more hb10.size)
  replace HQ9 := Lib.hid ((HQ9.out.below hb10).more hb10.size)
  replace hbw := hbw.trans (hb10.mono hbw.size)
  clear hb10
  clear hd HR6 HR7 HWT
  go_wp2_with fail
  refine (same_any A8 A9 n8 n9 c8 c9 w10.heap.size la la S8 S9 w10 HR8.out HR9.out hn8 hc8 hn9 hc9 HWA.out HWA.out).mono ?_
  rintro e w11 ⟨d, rfl, hd, hb11⟩
  obtain rfl : d = true := hd.2 rfl
  replace HR2 := Lib.hid ((HR2.out.below hb11).more hb11.size)
  replace HX3 := Lib.hid ((HX3.out.below hb11).more hb11.size)
  replace HX4 := Lib.hid ((HX4.out.below hb11).more hb11.size)
  replace HQ8 := Lib.hid ((HQ8.out.below hb11).more hb11.size)
  replace HQ9 := Lib.hid ((HQ9.out.below hb11).more hb11.size)
  replace hbw := hbw.trans (hb11.mono hbw.size)
  clear hb11
  clear hd HR8 HR9 HWA
  go_wp2_with fail
  refine (same_any B8 B9 m8 m9 d8 d9 w11.heap.size lb lb U8 U9 w11 HQ8.out HQ9.out hm8 hd8 hm9 hd9 HWB.out HWB.out).mono ?_
  rintro e w12 ⟨d, rfl, hd, hb12⟩
  obtain rfl : d = true := hd.2 rfl
  replace HR2 := Lib.hid ((HR2.out.below hb12).more hb12.size)
  replace HX3 := Lib.hid ((HX3.out.below hb12).more hb12.size)
  replace HX4 := Lib.hid ((HX4.out.below hb12).more hb12.size)
  replace hbw := hbw.trans (hb12.mono hbw.size)
  clear hb12
  clear hd HQ8 HQ9 HWB
  go_wp2_with fail
  refine (may_row A2 m c2 lf (S.take 60) w12 HR2.out hc2 hc22 (by omega) HOK.out).mono ?_
  rintro e w13 ⟨rfl, hb13⟩
  rw [HER.out]
  replace HR2 := Lib.hid ((HR2.out.below hb13).more hb13.size)
  replace HX3 := Lib.hid ((HX3.out.below hb13).more hb13.size)
  replace HX4 := Lib.hid ((HX4.out.below hb13).more hb13.size)
  replace hbw := hbw.trans (hb13.mono hbw.size)
  clear hb13
  go_wp2_with fail
  refine (rmay_any A2 m c2 lf (S.take 60) w13 HR2.out hc2 hc22 (by omega) HOK.out).mono ?_
  rintro e w14 ⟨rfl, hb14⟩
  rw [HER.out]
  replace HX3 := Lib.hid ((HX3.out.below hb14).more hb14.size)
  replace HX4 := Lib.hid ((HX4.out.below hb14).more hb14.size)
  replace hbw := hbw.trans (hb14.mono hbw.size)
  clear hb14
  have s1 := run_str (P := Try.prog) w14 23 9 5 Try.underlying23 Try.underlying5 Try.underlying9 HX3.out c3
  have s2 := run_str (P := Try.prog) w14 23 9 5 Try.underlying23 Try.underlying5 Try.underlying9 HX4.out c4
  go_wp2
  go_ret
  exact ⟨rfl, hbw⟩
end Go.Proofs.Ytpbhmhagailhfaa
