/-
  The walk of the law that any bytes are taken as a command, or refused, as the reference says.
-/
import Derived.Test.YtkagonijkalicaaMgQ
import Derived.Test.YtkagonijkalicaaTlSame
set_option linter.unusedVariables false
set_option linter.unusedSimpArgs false
namespace Go.Proofs.Ytkagonijkalicaa
open Go.RowKit
open Cm (Cmd need mayC putC takeC project chunksB unchunk)
open Tl (Fel)

set_option maxHeartbeats 8000000 in
set_option maxRecDepth 100000 in
theorem ctakes_any (Ab : Option Addr) (nb cb : Nat) (bs : List Nat) (v : Int) (W : World) (hb : ∀ c ∈ bs, c < 256) (hrb : Rd W W.heap.size 1 Ab nb (bvs bs)) (hnb : nb ≤ cb) (hmb : cb ≤ 9223372036854775807) (hv : I64 v) :
    Calls Try.prog 5 #[.slice Ab nb cb, .int .i64 v] W fun e w' => e = .returned (.bool true) ∧ Below W.heap.size W w' := by
  obtain ⟨i0, hi, hz0, hz1, hz2⟩ := info_parts byte_info
  obtain ⟨L, hL⟩ : ∃ L, min nb 3000 = L := ⟨_, rfl⟩
  have hL2 : L ≤ nb ∧ L ≤ 3000 := by omega
  have hrb2 := hrb.bytes_to hL2.1
  have hbx : ∀ c ∈ bs.take L, c < 256 := fun c hc => hb c (List.mem_of_mem_take hc)
  obtain ⟨xs, hxs⟩ : ∃ xs, bs.take L = xs := ⟨_, rfl⟩
  rw [hxs] at hrb2 hbx
  have hshort := fun w' => short5_any Ab nb cb w' hnb hmb
  rw [hL] at hshort
  have htk := takeC_ok hbx v
  obtain ⟨R, hR⟩ : ∃ R, takeC xs v = R := ⟨_, rfl⟩
  rw [hR] at htk
  obtain ⟨C, rl, te⟩ := R
  obtain ⟨hC, hrl, hrn⟩ := htk
  simp only [] at hC hrl hrn
  have HR := Lib.hid hR
  have HCK := Lib.hid hC
  have HRL := Lib.hid (show ∀ f ∈ rl, f.wf from fun f hf => (hrl f hf).1)
  have HSH := Lib.hid hshort
  have HRX := Lib.hid hrb2
  have HBX := Lib.hid hbx
  have hbw : Below W.heap.size W W := Below.refl _ _
  clear hL hrb2 hbx hxs hshort hb hrb hR hC hrl
  go_enter Try.func5, Try.ntmps5
  go_wp2_with fail
  refine (cshown_any W).mono ?_
  rintro e w1 ⟨rfl, hb1⟩
  replace HRX := Lib.hid ((HRX.out.below hb1).more hb1.size)
  replace hbw := hbw.trans (hb1.mono hbw.size)
  clear hb1
  go_wp2_with fail
  refine (HSH.out w1).mono ?_
  rintro e w1' ⟨rfl, rfl⟩
  clear HSH
  have hs1 := hbw.size
  go_wp2_with (at_builtin; refine wpList_append_rd _ rfl (.tmp 18) (.tmp 19) 25 rfl w1.heap.size 5 i0 (.int .u8 0) 1 1 Try.underlying25 hi hz0 hz1 hz2 rfl (by decide) _ 0 [] rfl (World.ownsRow_made (e := 5) w1 #[] 0 (Nat.le_refl _) (by unfold maxLen; omega) rfl) w1.heap.size Ab L cb (bvs xs) rfl (HRX.out.alloc (Nat.le_refl _) _) (bvs_one _) (by unfold maxLen; omega) (by omega) (by simp) ?_)
  intro v2 w2 hown2 hg2
  have hb2 : Below w1.heap.size w1 w2 := ((Below.refl _ _).alloc (Nat.le_refl _) _).grown hg2 (by simp) (fun k hk => by simp [Value.ownBlock] at hk; omega)
  have hown2' : w2.ownsRow w1.heap.size 5 1 v2 L (bvs xs) := by simpa using hown2
  obtain ⟨A2, c2, rfl, hc2, hc22⟩ := slice_of_own hown2'
  have HX2 := Lib.hid (Rd.of_own hown2')
  replace HRX := Lib.hid ((HRX.out.below hb2).more hb2.size)
  replace hbw := hbw.trans (hb2.mono hbw.size)
  clear hb2
  clear hown2 hg2 hown2' hs1
  have HT := Lib.hid (take_c A2 L c2 xs v w2 HBX.out HX2.out hc2 hc22 hv)
  go_wp2_with fail
  refine HT.out.mono ?_
  rintro e w3 ⟨s3, u3, rfl, hrc3, hrow3, hb3⟩
  rw [HR.out] at hrc3 hrow3
  rw [HR.out]
  obtain ⟨A3, n3, c3, S3, rfl, hn3, hc3, hr3⟩ := hrow3
  simp only [] at hr3 hrc3
  have HRC3 := Lib.hid hrc3
  have HR3 := Lib.hid hr3
  replace HRX := Lib.hid ((HRX.out.below hb3).more hb3.size)
  replace hbw := hbw.trans (hb3.mono hbw.size)
  clear hb3
  clear hrc3 hr3 HT HX2
  obtain ⟨w4, hw4, hk4, hb4, hs4⟩ := box_cmd w3 C s3 24
  have HW4 := Lib.hid hw4
  have HK := Lib.hid hk4
  replace HRX := Lib.hid ((HRX.out.below hb4).more hb4.size)
  replace HRC3 := Lib.hid ((HRC3.out.below hb4).more hb4.size)
  replace HR3 := Lib.hid ((HR3.out.below hb4).more hb4.size)
  replace hbw := hbw.trans (hb4.mono hbw.size)
  clear hb4
  clear hw4 hk4
  unfold cagg cblk at *
  have HT := Lib.hid (rtakec_any Ab L cb xs v w4 HBX.out HRX.out (by omega) hmb hv.1 hv.2)
  go_wp2_with fail
  rw [← HW4.out]
  refine HT.out.mono ?_
  rintro e w5 ⟨s5, u5, rfl, hrc5, hrow5, hb5⟩
  rw [HR.out] at hrc5 hrow5
  rw [HR.out]
  obtain ⟨A5, n5, c5, S5, rfl, hn5, hc5, hr5⟩ := hrow5
  simp only [] at hr5 hrc5
  have HRC5 := Lib.hid hrc5
  have HR5 := Lib.hid hr5
  have hlt5 := Nat.lt_of_lt_of_le hs4 hb5.size
  replace HK := Lib.hid (HK.out.below hb5 hs4)
  replace HRC3 := Lib.hid ((HRC3.out.below hb5).more hb5.size)
  replace HR3 := Lib.hid ((HR3.out.below hb5).more hb5.size)
  replace hbw := hbw.trans (hb5.mono hbw.size)
  clear hb5
  clear hrc5 hr5 HT HW4 HRX
  obtain ⟨w6, hw6, hk6, hb6, hs6⟩ := box_cmd w5 C s5 24
  have HW6 := Lib.hid hw6
  have HK6 := Lib.hid hk6
  replace HK := Lib.hid (HK.out.below hb6 hlt5)
  replace HRC3 := Lib.hid ((HRC3.out.below hb6).more hb6.size)
  replace HR3 := Lib.hid ((HR3.out.below hb6).more hb6.size)
  replace HRC5 := Lib.hid ((HRC5.out.below hb6).more hb6.size)
  replace HR5 := Lib.hid ((HR5.out.below hb6).more hb6.size)
  replace hbw := hbw.trans (hb6.mono hbw.size)
  clear hb6
  obtain ⟨k0, k1, k2, k3, k4, k5, k6, k7⟩ := cblk_cells HK.out
  obtain ⟨j0, j1, j2, j3, j4, j5, j6, j7⟩ := cblk_cells HK6.out
  clear hw6 hk6
  unfold cagg cblk at *
  go_upto_region 5 with fail
  rw [← HW6.out]
  have HSM := Lib.hid (samec_any C C s3 s5 w6 HRC3.out HRC5.out HCK.out.2.2.1 HCK.out.2.2.1)
  unfold cagg cblk at HSM
  go_wp2_with fail
  refine HSM.out.mono ?_
  rintro e w7 ⟨rfl, hb7⟩
  first | rw [decide_eq_true (rfl : C = C)] | simp only [decide_true]
  replace HR3 := Lib.hid ((HR3.out.below hb7).more hb7.size)
  replace HR5 := Lib.hid ((HR5.out.below hb7).more hb7.size)
  replace hbw := hbw.trans (hb7.mono hbw.size)
  clear hb7
  clear HSM k0 k1 k2 k3 k4 k5 k6 k7 j0 j1 j2 j3 j4 j5 j6 j7
  go_wp2_with fail
  refine (same_any A3 A5 n3 n5 c3 c5 w7.heap.size rl rl S3 S5 w7 HR3.out HR5.out hn3 hc3 hn5 hc5 HRL.out HRL.out).mono ?_
  rintro e w8 ⟨d, rfl, hd, hb8⟩
  obtain rfl : d = true := hd.2 rfl
  replace hbw := hbw.trans (hb8.mono hbw.size)
  clear hd
  go_wp2
  go_ret
  exact ⟨rfl, hbw⟩
end Go.Proofs.Ytkagonijkalicaa
