/-
  The walk of the law that of a field that was laid down just that is skipped, and that, cut, it goes on.
-/
import Derived.Test.YtpenedfinfiecaaTgOnce
import Derived.Test.YtpenedfinfiecaaTgSkPlain
import Derived.Test.YtpenedfinfiecaaViRPut
import Derived.Deep.DeepCutAuto
import Derived.Test.YtpenedfinfiecaaApp
namespace Go.Proofs.Ytpenedfinfiecaa.Tg
open Go.RowKit
open Go.Proofs.Ytpenedfinfiecaa.Vi (put take put_len put_byte take_put take_put0 rput_int)

set_option maxHeartbeats 4000000 in
set_option maxRecDepth 100000 in
theorem skips_any (num nn : Int) (A : Option Addr) (n c : Nat) (bs : List Nat) (at_ : Int) (w : World) (n0 : -9223372036854775808 ≤ num) (n1 : num ≤ 9223372036854775807) (k0 : 0 ≤ nn) (k1 : nn ≤ 18446744073709551615)
    (hb : ∀ c ∈ bs, c < 256) (h : Rd w w.heap.size 1 A n (bvs bs)) (hnc : n ≤ c) (hmax : c ≤ 9223372036854775807) (a0 : -9223372036854775808 ≤ at_) (a1 : at_ ≤ 9223372036854775807) :
    Calls Try.prog 5 #[.int .i64 num, .int .u64 nn, .agg #[.slice A n c, .int .i64 at_]] w fun e w' => e = .returned (.bool true) ∧ Below w.heap.size w w' := by
  obtain ⟨i0, hi, hz0, hz1, hz2⟩ := info_parts byte_info
  have m1 := and_mask num
  obtain ⟨L, hL⟩ : ∃ L, (if 1000 < n then 1000 else n) = L := ⟨_, rfl⟩
  have hLn : L ≤ n ∧ L ≤ 1000 := by split at hL <;> omega
  have HL := Lib.hid hL
  clear hL
  have hx := h.bytes_to hLn.1
  have hbx : ∀ c ∈ bs.take L, c < 256 := fun c hc => hb c (List.mem_of_mem_take hc)
  clear h hb
  generalize bs.take L = xs at *
  have hxl : xs.length = L := by have := hx.1; rw [bvs_len] at this; omega
  have HXL := Lib.hid hxl
  have HX := Lib.hid hx
  have HB := Lib.hid hbx
  clear hx hbx hxl
  go_enter Try.func5, Try.ntmps5
  go_wp2_with fail
  obtain ⟨w0, hw0⟩ : ∃ w0 : World, w0 = w.alloc (.cells #[.slice A n c, .int .i64 at_] 35) := ⟨_, rfl⟩
  have hk0 : Blk w0 w.heap.size 35 #[.slice A n c, .int .i64 at_] := by rw [hw0]; exact Blk.new _ _ _
  have hb0 : Below w.heap.size w w0 := by rw [hw0]; exact (Below.refl _ _).alloc (Nat.le_refl _) _
  have hs0 : w.heap.size < w0.heap.size := by rw [hw0]; simp
  rw [← hw0]
  clear hw0
  refine (shown_any _).mono ?_
  rintro e w1 ⟨rfl, hb1⟩
  have hk1 := hk0.below hb1 hs0
  have hs1 := hb1.size
  have hbw1 := hb0.trans (hb1.mono (Nat.le_of_lt hs0))
  have HK1 := Lib.hid hk1
  have f0 := hk1.cell 0
  have f2 := hk1.frozen 0
  simp at f0
  clear hk1 hk0 hb0 hb1
  go_upto_if 29 with fail
  have hk := (by omega : 1 ≤ 1 + num % 1024 % 1000 ∧ 1 + num % 1024 % 1000 ≤ 1000)
  generalize 1 + num % 1024 % 1000 = k at *
  clear m1 n0 n1
  go_cut [] (fun wx => Blk wx w.heap.size 35 #[.slice A L c, .int .i64 at_] ∧ Below w.heap.size w wx)
  case first =>
    by_cases h1 : 1000 < n
    · obtain rfl : L = 1000 := by have h2 := HL.out; rw [if_pos h1] at h2; exact h2.symm
      have h3 : (1000 : Int) ≤ (c : Int) := by omega
      go_wp2
      go_meet
      case rel => exact ⟨by simpa using HK1.out.put 0 (.slice A 1000 c), hbw1.setCell (Nat.le_refl _) _⟩
    · obtain rfl : L = n := by have h2 := HL.out; rw [if_neg h1] at h2; exact h2.symm
      go_wp2
      go_meet
      case rel => exact ⟨HK1.out, hbw1⟩
  case rest =>
    obtain ⟨hk2, hb2⟩ := hcut
    have HK := Lib.hid hk2
    have hlt := hk2.lt
    clear HK1 HL f0 f2 hk2
    have hop : okTag k 0 = true := okTag_iff.2 ⟨hk.1, hk.2, .inl rfl⟩
    have hoq : okTag k 2 = true := okTag_iff.2 ⟨hk.1, hk.2, .inr rfl⟩
    obtain ⟨pb, hpbe⟩ : ∃ pb, tput k 0 = (pb, 0) := ⟨(tput k 0).1, Prod.ext rfl (by rw [tput_ok hop])⟩
    obtain ⟨qb, hqbe⟩ : ∃ qb, tput k 2 = (qb, 0) := ⟨(tput k 2).1, Prod.ext rfl (by rw [tput_ok hoq])⟩
    have hlp := tput_len hop
    have hlq := tput_len hoq
    have hpb := tput_byte k 0
    have hqb := tput_byte k 2
    have hN : nn.toNat < 18446744073709551616 := by omega
    have hxl := HXL.out
    have hsn := skip_number hop nn.toNat hN [1, 2, 3]
    have hsb := skip_bytes hoq xs [1, 2, 3] (by omega)
    have hcn : ∀ j, j < (tput k 0).1.length + (put nn.toNat).length → tskip (((tput k 0).1 ++ put nn.toNat).take j) = (0, 2) := fun j hj => skip_number_cut hop nn.toNat hN hj
    have hcb : ∀ j, j < (tput k 2).1.length + (put xs.length).length + xs.length → tskip (((tput k 2).1 ++ put xs.length ++ xs).take j) = (0, 2) := fun j hj => skip_bytes_cut hoq xs (by omega) hj
    have hnb := put_byte nn.toNat hN
    have hnl := put_len nn.toNat
    have hlb := put_byte L (by omega)
    have hll := put_len L
    rw [hpbe] at hlp hpb hsn hcn
    rw [hqbe] at hlq hqb hsb hcb
    rw [hxl] at hsb hcb
    simp only [] at hlp hlq hpb hqb hsn hsb hcn hcb
    have HPE := Lib.hid hpbe
    have HQE := Lib.hid hqbe
    obtain ⟨nb, hnbe⟩ : ∃ nb, put nn.toNat = nb := ⟨_, rfl⟩
    obtain ⟨lb, hlbe⟩ : ∃ lb, put L = lb := ⟨_, rfl⟩
    rw [hnbe] at hsn hcn hnb hnl
    rw [hlbe] at hsb hcb hlb hll
    have HNE := Lib.hid hnbe
    have HLE := Lib.hid hlbe
    generalize hmp : pb.length = mp at *
    generalize hmq : qb.length = mq at *
    generalize hmn : nb.length = mn at *
    generalize hml : lb.length = ml at *
    have HMP := Lib.hid hmp
    have HMQ := Lib.hid hmq
    have HMN := Lib.hid hmn
    have HML := Lib.hid hml
    have HSN := Lib.hid hsn
    have HSB := Lib.hid hsb
    have HCN := Lib.hid hcn
    have HCB := Lib.hid hcb
    have HPB := Lib.hid hpb
    have HQB := Lib.hid hqb
    have HNB := Lib.hid hnb
    have HLB := Lib.hid hlb
    have hp2 : 1 ≤ mp ∧ mp ≤ 2 := by split at hlp <;> omega
    have hq2 : 1 ≤ mq ∧ mq ≤ 2 := by split at hlq <;> omega
    clear hpbe hqbe hlp hlq hpb hqb hsn hsb hcn hcb hnb hlb hnbe hlbe hmp hmq hmn hml hop hoq hxl hN
    have hsc := hb2.size
    go_wp2_with fail
    refine (put_tag k 0 _ (by omega) (by omega) (by omega) (by omega)).mono ?_
    rintro e w2 ⟨v2, rfl, hown2, hb3⟩
    rw [HPE.out] at hown2 ⊢
    replace hown2 : w2.ownsRow wc.heap.size 5 1 v2 mp (bvs pb) := by have h1 := hown2; simp only [HMP.out] at h1; exact h1
    obtain ⟨A2, c2, rfl, hc2, hc22⟩ := slice_of_own hown2
    have HO2 := Lib.hid (Rd.of_own hown2)
    have hbw2 := hb2.trans (hb3.mono hsc)
    have HK2 := Lib.hid (HK.out.below hb3 hlt)
    have hs2 := hb3.size
    clear hown2 HK hb2 hb3
    go_wp2_with fail
    refine (put_tag k 2 _ (by omega) (by omega) (by omega) (by omega)).mono ?_
    rintro e w3 ⟨v3, rfl, hown3, hb3⟩
    rw [HQE.out] at hown3 ⊢
    replace hown3 : w3.ownsRow w2.heap.size 5 1 v3 mq (bvs qb) := by have h1 := hown3; simp only [HMQ.out] at h1; exact h1
    obtain ⟨A3, c3, rfl, hc3, hc32⟩ := slice_of_own hown3
    have HO3 := Lib.hid (Rd.of_own hown3)
    have hbw3 := hbw2.trans (hb3.mono hbw2.size)
    have hlt2 := HK2.out.lt
    have HK3 := Lib.hid (HK2.out.below hb3 hlt2)
    have HP3 := Lib.hid ((HO2.out.below hb3).more hb3.size)
    have hlt3 := HK3.out.lt
    clear hown3 hb3 HO2 HK2 hbw2
    go_wp2_with (at_builtin; refine wpList_append_rd _ rfl (.tmp 50) (.tmp 51) 22 rfl w3.heap.size 5 i0 (.int .u8 0) 1 1 Try.underlying22 hi hz0 hz1 hz2 rfl (by decide) _ 0 [] rfl (World.ownsRow_made (e := 5) w3 #[] 0 (Nat.le_refl _) (by unfold maxLen; omega) rfl) w3.heap.size A2 mp c2 (bvs pb) rfl (HP3.out.alloc (Nat.le_refl _) _) (bvs_one _) (by unfold maxLen; omega) (by omega) (by simp) ?_)
    intro v4 w4 hown4 hg4
    have hb4 : Below w3.heap.size w3 w4 := ((Below.refl _ _).alloc (Nat.le_refl _) _).grown hg4 (by simp) (fun k hk => by simp [Value.ownBlock] at hk; omega)
    have hs4 := hb4.size
    have HO4 := Lib.hid hown4
    clear hown4 hg4
    go_wp2_with fail
    refine (rput_int nn _ k0 k1).mono ?_
    rintro e w5 ⟨v5, rfl, hown5, hb5⟩
    rw [HNE.out] at hown5
    replace hown5 : w5.ownsRow w4.heap.size 5 1 v5 mn (bvs nb) := by have h1 := hown5; simp only [HMN.out] at h1; exact h1
    obtain ⟨A5, c5, rfl, hc5, hc52⟩ := slice_of_own hown5
    have HO5 := Lib.hid (Rd.of_own hown5)
    have HO4' := Lib.hid (own_below HO4.out hb5)
    have hb5' : Below w3.heap.size w3 w5 := hb4.trans (hb5.mono hs4)
    have hs5 := hb5'.size
    clear hown5 HO4 hb4 hs4
    go_wp2_with (at_builtin; refine wpList_append_rd _ rfl (.tmp 52) (.tmp 54) 22 rfl w3.heap.size 5 i0 (.int .u8 0) 1 1 Try.underlying22 hi hz0 hz1 hz2 rfl (by decide) _ mp (bvs pb) rfl HO4'.out w5.heap.size A5 mn c5 (bvs nb) rfl HO5.out (bvs_one _) (by unfold maxLen; omega) (by omega) (by omega) ?_)
    intro v6 w6 hown6 hg6
    have hb6 : Below w3.heap.size w3 w6 := hb5'.grown hg6 (by omega) (fun k hk => (HO4'.out.lt k hk).1)
    rw [← bvs_app] at hown6
    obtain ⟨A6, c6, rfl, hc6, hc62⟩ := slice_of_own hown6
    have HA := Lib.hid (Rd.of_own hown6)
    have HK6 := Lib.hid (HK3.out.below hb6 hlt3)
    have HQ6 := Lib.hid ((HO3.out.below hb6).more hb6.size)
    have hbw6 := hbw3.trans (hb6.mono hbw3.size)
    have hs6 := hbw6.size
    have hlt6 := HK6.out.lt
    clear hown6 hg6 hb6 hb5' hs5 HO4' HO5 hb5 HK3 HP3 HO3 hbw3 hs2 hlt hlt2 hlt3 hsc
    go_upto_region 10 with fail
    go_cut [11] (fun v wx => wx.ownsRow w6.heap.size 5 1 v (mq + ml + L) (bvs (qb ++ lb ++ xs)) ∧ Below w6.heap.size w6 wx)
    case first =>
      have f0 := HK6.out.cell 0
      simp at f0
      have t1 : (w6.alloc (.cells #[] 5)).drew.ownsRow w6.heap.size 5 1 (.slice (some ⟨w6.heap.size, 0, none⟩) 0 0) 0 [] := (World.ownsRow_made (e := 5) (size := 1) w6 #[] 0 (Nat.le_refl _) (by unfold maxLen; omega) rfl).drew
      have t2 : Rd (w6.alloc (.cells #[] 5)).drew w6.heap.size 1 A3 mq (bvs qb) := (HQ6.out.alloc (Nat.le_refl _) (.cells #[] 5)).drewN 1
      have t3 : w6.heap.size ≤ (w6.alloc (.cells #[] 5)).drew.heap.size := by show w6.heap.size ≤ (w6.alloc _).heap.size; simp
      have t4 : 0 + mq ≤ maxLen := by unfold maxLen; omega
      have t5 : (0 + mq) * 1 ≤ 140737488355328 := by omega
      have t6 : (Value.int .u8 0).cells.size = 1 := rfl
      have t7 : Below w6.heap.size w6 (w6.alloc (.cells #[] 5)).drew := ((Below.refl _ _).alloc (Nat.le_refl _) _).drew
      have t8 : mq + ml ≤ maxLen := by unfold maxLen; omega
      have t9 : (mq + ml) * 1 ≤ 140737488355328 := by omega
      have t10 : mq + ml + L ≤ maxLen := by unfold maxLen; omega
      have t11 : (mq + ml + L) * 1 ≤ 140737488355328 := by omega
      have t12 : (0 : Int) ≤ (L : Int) := by omega
      have t14 : IntKind.u64.wrap (L : Int) = (L : Int) := by rw [IntKind.wrap_u64]; omega
      have t13 : (L : Int) ≤ 18446744073709551615 := by omega
      go_region_held3 (fun w' => w'.cell? ⟨w.heap.size, 0, none⟩ = some (.slice A L c)) (go_keep)
        (first
          | (fail_if_success (have gg := hown7)
             refine step_append_rd (by rfl) (.tmp 56) (.tmp 57) 22 (by rfl) w6.heap.size 5 i0 (.int .u8 0) 1 1 Try.underlying22 hi hz0 hz1 hz2 t6 (by decide) _ 0 [] ?g1 t1 w6.heap.size A3 mq c3 (bvs qb) ?g2 t2 (bvs_one _) t4 t5 t3 ?_
             case g1 => rfl
             case g2 => rfl
             intro v7 w7 hown7 hg7
             have hb7 : Below w6.heap.size w6 w7 := t7.grown hg7 t3 (fun k hk => (t1.lt k hk).1)
             have f7 : w7.cell? ⟨w.heap.size, 0, none⟩ = some (.slice A L c) := (hb7.cell (p := ⟨w.heap.size, 0, none⟩) hlt6).trans f0
             clear hg7)
          | (fail_if_success (have gg := hown8)
             go_at_call 15
             refine (rput_int (L : Int) _ t12 t13).mono ?_
             rintro e w8 ⟨v8, rfl, hown8, hb8⟩
             replace hown8 : w8.ownsRow w7.heap.size 5 1 v8 ml (bvs lb) := by have h1 := hown8; simp only [Int.toNat_natCast, HLE.out, HML.out] at h1; exact h1
             obtain ⟨A8, c8, rfl, hc8, hc82⟩ := slice_of_own hown8
             have r8 := Rd.of_own hown8
             have h78 : Below w7.heap.size w7 w8 := hb8
             have hown77 : w8.ownsRow w6.heap.size 5 1 v7 mq (bvs qb) := by have h1 := own_below hown7 h78; simpa only [Nat.zero_add, List.nil_append] using h1
             have hb88 : Below w6.heap.size w6 w8 := hb7.trans (h78.mono hb7.size)
             have t15 := hb88.size
             have f8 : w8.cell? ⟨w.heap.size, 0, none⟩ = some (.slice A L c) := (hb88.cell (p := ⟨w.heap.size, 0, none⟩) hlt6).trans f0
             clear hb8)
          | (fail_if_success (have gg := hown9)
             refine step_append_rd (by rfl) (.tmp 58) (.tmp 63) 22 (by rfl) w6.heap.size 5 i0 (.int .u8 0) 1 1 Try.underlying22 hi hz0 hz1 hz2 t6 (by decide) v7 mq (bvs qb) ?g1 hown77 w8.heap.size A8 ml c8 (bvs lb) ?g2 r8 (bvs_one _) t8 t9 t15 ?_
             case g1 => rfl
             case g2 => rfl
             intro v9 w9 hown9 hg9
             have hb9 : Below w6.heap.size w6 w9 := hb88.grown hg9 t15 (fun k hk => (hown77.lt k hk).1)
             have f9 : w9.cell? ⟨w.heap.size, 0, none⟩ = some (.slice A L c) := (hb9.cell (p := ⟨w.heap.size, 0, none⟩) hlt6).trans f0
             have r9 : Rd w9 w6.heap.size 1 A L (bvs xs) := ((HX.out.below hbw6).more hs6).below hb9
             have t16 := hb9.size
             clear hg9)
          | (fail_if_success (have gg := hown10)
             refine step_append_rd (by rfl) (.tmp 64) (.tmp 66) 22 (by rfl) w6.heap.size 5 i0 (.int .u8 0) 1 1 Try.underlying22 hi hz0 hz1 hz2 t6 (by decide) v9 (mq + ml) (bvs qb ++ bvs lb) ?g1 hown9 w6.heap.size A L c (bvs xs) ?g2 r9 (bvs_one _) t10 t11 t16 ?_
             case g1 => rfl
             case g2 => rfl
             intro v10 w10 hown10 hg10
             have hb10 : Below w6.heap.size w6 w10 := hb9.grown hg10 t16 (fun k hk => (hown9.lt k hk).1)
             have f10 : w10.cell? ⟨w.heap.size, 0, none⟩ = some (.slice A L c) := (hb10.cell (p := ⟨w.heap.size, 0, none⟩) hlt6).trans f0
             clear hg10)
          | fail)
      go_wp2
      go_meet
      case rel => exact ⟨by rw [bvs_app, bvs_app]; exact hown10, hb10⟩
    case rest =>
      obtain ⟨hownB, hbB⟩ := hcut
      obtain ⟨AB, cB, rfl, hcB, hcB2⟩ := slice_of_own hownB
      have HRB := Lib.hid (Rd.of_own hownB)
      have HRA := Lib.hid ((HA.out.below hbB).more hbB.size)
      have HKc := Lib.hid (HK6.out.below hbB hlt6)
      have hbwc := hbw6.trans (hbB.mono hs6)
      have hltc := HKc.out.lt
      have hyA : ∀ d ∈ pb ++ nb, d < 256 := fun d hd => (List.mem_append.1 hd).elim (HPB.out d) (HNB.out d)
      have hyB : ∀ d ∈ qb ++ lb ++ xs, d < 256 := fun d hd => (List.mem_append.1 hd).elim (fun h => (List.mem_append.1 h).elim (HQB.out d) (HLB.out d)) (HB.out d)
      have h123 : ∀ d ∈ [1, 2, 3], d < 256 := by decide
      have HYA := Lib.hid hyA
      have HYB := Lib.hid hyB
      have HYA3 := Lib.hid (show ∀ d ∈ pb ++ nb ++ [1, 2, 3], d < 256 from fun d hd => (List.mem_append.1 hd).elim (hyA d) (h123 d))
      have HYB3 := Lib.hid (show ∀ d ∈ qb ++ lb ++ xs ++ [1, 2, 3], d < 256 from fun d hd => (List.mem_append.1 hd).elim (hyB d) (h123 d))
      clear hownB hyA hyB h123 HA HK6 HQ6 hbB hbw6 hs6 hlt6 HPB HQB HNB HLB HB HX HXL
      have hla : mp + mn ≤ 12 := by omega
      have hlb : mq + ml + L ≤ 1012 := by omega
      generalize mp + mn = la at *
      generalize mq + ml + L = le at *
      generalize pb ++ nb = sa at *
      generalize qb ++ lb ++ xs = sb at *
      have HTA := Lib.hid (show Value.tuple #[.int .i64 (((tskip (sa ++ [1, 2, 3])).1 : Nat) : Int), .int .i64 (((tskip (sa ++ [1, 2, 3])).2 : Nat) : Int)] = .tuple #[.int .i64 (la : Int), .int .i64 0] by rw [HSN.out]; rfl)
      have HTB := Lib.hid (show Value.tuple #[.int .i64 (((tskip (sb ++ [1, 2, 3])).1 : Nat) : Int), .int .i64 (((tskip (sb ++ [1, 2, 3])).2 : Nat) : Int)] = .tuple #[.int .i64 (le : Int), .int .i64 0] by rw [HSB.out]; rfl)
      clear HSN HSB
      go_wp2_with (at_builtin; refine wpList_append_rd _ rfl (.tmp 69) (.tmp 70) 22 rfl wc.heap.size 5 i0 (.int .u8 0) 1 1 Try.underlying22 hi hz0 hz1 hz2 rfl (by decide) _ 0 [] rfl (World.ownsRow_made (e := 5) wc #[] 0 (Nat.le_refl _) (by unfold maxLen; omega) rfl) (wc.heap.size) A6 la c6 (bvs (sa)) rfl (HRA.out.alloc (Nat.le_refl _) _) (bvs_one _) (by unfold maxLen; omega) (by omega) (by simp) ?_)
      intro v11a w11a hown11a hg11a
      have hb11a : Below wc.heap.size wc w11a := ((Below.refl _ _).alloc (Nat.le_refl _) _).grown hg11a (by simp) (fun k hk => by simp [Value.ownBlock] at hk; omega)
      have hs11a := hb11a.size
      have HO11a := Lib.hid hown11a
      have r11 : Rd (w11a.alloc (.cells #[.int .u8 1, .int .u8 2, .int .u8 3] 5)) (w11a.heap.size + 1) 1 (some ⟨w11a.heap.size, 0, none⟩) 3 (bvs [1, 2, 3]) := rd_new w11a [.int .u8 1, .int .u8 2, .int .u8 3] 5
      have HR11 := Lib.hid r11
      clear hown11a hg11a r11
      go_wp2_with (at_builtin; refine wpList_append_rd _ rfl (.tmp 71) (.tmp 72) 22 rfl wc.heap.size 5 i0 (.int .u8 0) 1 1 Try.underlying22 hi hz0 hz1 hz2 rfl (by decide) _ la (bvs (sa)) rfl (HO11a.out.alloc _) (w11a.heap.size + 1) (some ⟨w11a.heap.size, 0, none⟩) 3 3 (bvs [1, 2, 3]) rfl (HR11.out) (bvs_one _) (by unfold maxLen; omega) (by omega) (by simp; omega) ?_)
      intro v11b w11b hown11b hg11b
      have hb11b : Below wc.heap.size wc w11b := (hb11a.alloc hs11a _).grown hg11b (by simp; omega) (fun k hk => (HO11a.out.lt k hk).1)
      rw [← bvs_app] at hown11b
      obtain ⟨A11, c11, rfl, hc11, hcm11⟩ := slice_of_own hown11b
      have HO11 := Lib.hid (Rd.of_own hown11b)
      have hs11b := hb11b.size
      clear hown11b hg11b HR11 HO11a hb11a hs11a
      go_wp2_with fail
      refine (skip_tag A11 (la + 3) c11 (sa ++ [1, 2, 3]) _ HYA3.out HO11.out hc11 hcm11).mono ?_
      rintro e w11c ⟨rfl, hb11c⟩
      rw [HTA.out]
      have hb11d : Below wc.heap.size wc w11c := hb11b.trans (hb11c.mono hs11b)
      have HRB1 := Lib.hid ((HRB.out.below hb11d).more hb11d.size)
      have HRA1 := Lib.hid ((HRA.out.below hb11d).more hb11d.size)
      have HKc1 := Lib.hid (HKc.out.below hb11d hltc)
      have hbw11 := hbwc.trans (hb11d.mono hbwc.size)
      have hlt11 := HKc1.out.lt
      clear HRB HRA HKc hb11b hb11c hb11d hs11b HO11 HTA HYA3 hltc hbwc
      go_wp2_with (at_builtin; refine wpList_append_rd _ rfl (.tmp 78) (.tmp 79) 22 rfl w11c.heap.size 5 i0 (.int .u8 0) 1 1 Try.underlying22 hi hz0 hz1 hz2 rfl (by decide) _ 0 [] rfl (World.ownsRow_made (e := 5) w11c #[] 0 (Nat.le_refl _) (by unfold maxLen; omega) rfl) (w11c.heap.size) AB le cB (bvs (sb)) rfl (HRB1.out.alloc (Nat.le_refl _) _) (bvs_one _) (by unfold maxLen; omega) (by omega) (by simp) ?_)
      intro v12a w12a hown12a hg12a
      have hb12a : Below w11c.heap.size w11c w12a := ((Below.refl _ _).alloc (Nat.le_refl _) _).grown hg12a (by simp) (fun k hk => by simp [Value.ownBlock] at hk; omega)
      have hs12a := hb12a.size
      have HO12a := Lib.hid hown12a
      have r12 : Rd (w12a.alloc (.cells #[.int .u8 1, .int .u8 2, .int .u8 3] 5)) (w12a.heap.size + 1) 1 (some ⟨w12a.heap.size, 0, none⟩) 3 (bvs [1, 2, 3]) := rd_new w12a [.int .u8 1, .int .u8 2, .int .u8 3] 5
      have HR12 := Lib.hid r12
      clear hown12a hg12a r12
      go_wp2_with (at_builtin; refine wpList_append_rd _ rfl (.tmp 80) (.tmp 81) 22 rfl w11c.heap.size 5 i0 (.int .u8 0) 1 1 Try.underlying22 hi hz0 hz1 hz2 rfl (by decide) _ le (bvs (sb)) rfl (HO12a.out.alloc _) (w12a.heap.size + 1) (some ⟨w12a.heap.size, 0, none⟩) 3 3 (bvs [1, 2, 3]) rfl (HR12.out) (bvs_one _) (by unfold maxLen; omega) (by omega) (by simp; omega) ?_)
      intro v12b w12b hown12b hg12b
      have hb12b : Below w11c.heap.size w11c w12b := (hb12a.alloc hs12a _).grown hg12b (by simp; omega) (fun k hk => (HO12a.out.lt k hk).1)
      rw [← bvs_app] at hown12b
      obtain ⟨A12, c12, rfl, hc12, hcm12⟩ := slice_of_own hown12b
      have HO12 := Lib.hid (Rd.of_own hown12b)
      have hs12b := hb12b.size
      clear hown12b hg12b HR12 HO12a hb12a hs12a
      go_wp2_with fail
      refine (skip_tag A12 (le + 3) c12 (sb ++ [1, 2, 3]) _ HYB3.out HO12.out hc12 hcm12).mono ?_
      rintro e w12c ⟨rfl, hb12c⟩
      rw [HTB.out]
      have hb12d : Below w11c.heap.size w11c w12c := hb12b.trans (hb12c.mono hs12b)
      have HRB2 := Lib.hid ((HRB1.out.below hb12d).more hb12d.size)
      have HRA2 := Lib.hid ((HRA1.out.below hb12d).more hb12d.size)
      have HKc2 := Lib.hid (HKc1.out.below hb12d hlt11)
      have hbw12 := hbw11.trans (hb12d.mono hbw11.size)
      have hlt12 := HKc2.out.lt
      clear HRB1 HRA1 HKc1 hb12b hb12c hb12d hs12b HO12 HTB HYB3 hlt11 hbw11
      have f20 := HKc2.out.cell 1
      simp at f20
      obtain ⟨D, hD⟩ : ∃ D, decide (0 ≤ at_ ∧ at_ < (la : Int)) = D := ⟨_, rfl⟩
      have HD := Lib.hid hD
      clear hD
      go_upto_region 15 with fail
      go_cut [113] (fun b wx => b = .bool D ∧ wx = w12c)
      case first =>
        by_cases h1 : 0 ≤ at_
        · by_cases h2 : at_ < (la : Int)
          · obtain rfl : D = true := by rw [← HD.out, decide_eq_true_iff]; exact ⟨h1, h2⟩
            go_wp2
            go_meet
            case rel => exact ⟨rfl, rfl⟩
          · obtain rfl : D = false := by rw [← HD.out, decide_eq_false_iff_not]; exact fun h => h2 h.2
            go_wp2
            go_meet
            case rel => exact ⟨rfl, rfl⟩
        · obtain rfl : D = false := by rw [← HD.out, decide_eq_false_iff_not]; exact fun h => h1 h.1
          go_wp2
          go_meet
          case rel => exact ⟨rfl, rfl⟩
      case rest =>
        obtain ⟨rfl, rfl⟩ := hcut
        go_upto_if 113 with fail
        go_cut [] (fun wx => Below wc.heap.size wc wx)
        case first =>
          cases D with
          | false =>
            go_wp2
            go_meet
            case rel => exact Below.refl _ _
          | true =>
            obtain ⟨h1, h2⟩ := of_decide_eq_true HD.out
            obtain ⟨j, hj⟩ := Int.eq_ofNat_of_zero_le h1
            have hjl : j < la := by omega
            have h3 : at_ ≤ (c6 : Int) := by omega
            have ht := HCN.out j hjl
            have HT := Lib.hid (show Value.tuple #[.int .i64 (((tskip ((sa).take j)).1 : Nat) : Int), .int .i64 (((tskip ((sa).take j)).2 : Nat) : Int)] = .tuple #[.int .i64 0, .int .i64 2] by rw [ht]; rfl)
            have HR := Lib.hid ((HRA2.out).bytes_to (Nat.le_of_lt hjl))
            have HBy := Lib.hid (show ∀ d ∈ (sa).take j, d < 256 from fun d hd => HYA.out d (List.mem_of_mem_take hd))
            have HJ := Lib.hid hj
            clear ht hj
            go_wp2_with fail
            rw [show at_.toNat = j by rw [HJ.out]; rfl]
            refine (skip_tag A6 j c6 ((sa).take j) _ HBy.out HR.out (by omega) (by omega)).mono ?_
            rintro e w5 ⟨rfl, hb5⟩
            rw [HT.out]
            go_wp2
            go_meet
            case rel => exact hb5
        case rest =>
          have HRB3 := Lib.hid ((HRB2.out.below hcut).more hcut.size)
          have HKc3 := Lib.hid (HKc2.out.below hcut hlt12)
          have hbw13 := hbw12.trans (hcut.mono hbw12.size)
          clear HRB2 HRA2 HKc2 hbw12 hlt12 f20
          have f21 := HKc3.out.cell 1
          simp at f21
          obtain ⟨D, hD⟩ : ∃ D, decide (0 ≤ at_ ∧ at_ < (le : Int)) = D := ⟨_, rfl⟩
          have HD := Lib.hid hD
          clear hD
          go_upto_region 19 with fail
          go_cut [137] (fun b wx => b = .bool D ∧ wx = wc)
          case first =>
            by_cases h1 : 0 ≤ at_
            · by_cases h2 : at_ < (le : Int)
              · obtain rfl : D = true := by rw [← HD.out, decide_eq_true_iff]; exact ⟨h1, h2⟩
                go_wp2
                go_meet
                case rel => exact ⟨rfl, rfl⟩
              · obtain rfl : D = false := by rw [← HD.out, decide_eq_false_iff_not]; exact fun h => h2 h.2
                go_wp2
                go_meet
                case rel => exact ⟨rfl, rfl⟩
            · obtain rfl : D = false := by rw [← HD.out, decide_eq_false_iff_not]; exact fun h => h1 h.1
              go_wp2
              go_meet
              case rel => exact ⟨rfl, rfl⟩
          case rest =>
            obtain ⟨rfl, rfl⟩ := hcut
            go_upto_if 137 with fail
            go_cut [] (fun wx => Below wc.heap.size wc wx)
            case first =>
              cases D with
              | false =>
                go_wp2
                go_meet
                case rel => exact Below.refl _ _
              | true =>
                obtain ⟨h1, h2⟩ := of_decide_eq_true HD.out
                obtain ⟨j, hj⟩ := Int.eq_ofNat_of_zero_le h1
                have hjl : j < le := by omega
                have h3 : at_ ≤ (cB : Int) := by omega
                have ht := HCB.out j hjl
                have HT := Lib.hid (show Value.tuple #[.int .i64 (((tskip ((sb).take j)).1 : Nat) : Int), .int .i64 (((tskip ((sb).take j)).2 : Nat) : Int)] = .tuple #[.int .i64 0, .int .i64 2] by rw [ht]; rfl)
                have HR := Lib.hid ((HRB3.out).bytes_to (Nat.le_of_lt hjl))
                have HBy := Lib.hid (show ∀ d ∈ (sb).take j, d < 256 from fun d hd => HYB.out d (List.mem_of_mem_take hd))
                have HJ := Lib.hid hj
                clear ht hj
                go_wp2_with fail
                rw [show at_.toNat = j by rw [HJ.out]; rfl]
                refine (skip_tag AB j cB ((sb).take j) _ HBy.out HR.out (by omega) (by omega)).mono ?_
                rintro e w5 ⟨rfl, hb5⟩
                rw [HT.out]
                go_wp2
                go_meet
                case rel => exact hb5
            case rest =>
              go_wp2
              go_ret
              exact ⟨rfl, hbw13.trans (hcut.mono hbw13.size)⟩
end Go.Proofs.Ytpenedfinfiecaa.Tg
