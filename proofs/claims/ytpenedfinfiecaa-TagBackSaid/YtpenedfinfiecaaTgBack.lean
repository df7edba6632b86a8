/-
  The walk of the law that a tag that was laid down is taken as it was.
-/
import Derived.Test.YtpenedfinfiecaaTgAll
import Derived.Test.YtpenedfinfiecaaSteady
import Derived.Deep.DeepCutAuto
namespace Go.Proofs.Ytpenedfinfiecaa.Tg
open Go.RowKit

set_option maxHeartbeats 4000000 in
set_option maxRecDepth 100000 in
theorem back_any (num wire : Int) (A : Option Addr) (n c : Nat) (bs : List Nat) (w : World) (n0 : -9223372036854775808 ≤ num) (n1 : num ≤ 9223372036854775807) (k0 : -9223372036854775808 ≤ wire) (k1 : wire ≤ 9223372036854775807)
    (hb : ∀ c ∈ bs, c < 256) (h : Rd w w.heap.size 1 A n (bvs bs)) (hnc : n ≤ c) (hmax : c ≤ 9223372036854775807) :
    Calls Try.prog 4 #[.int .i64 num, .int .i64 wire, .slice A n c] w fun e w' => e = .returned (.bool true) ∧ Below w.heap.size w w' := by
  obtain ⟨i0, hi, hz0, hz1, hz2⟩ := info_parts byte_info
  have hL := shortN_le n
  generalize hLn : shortN n = L at *
  have HLN := Lib.hid hLn
  clear hLn
  have hx := h.bytes_to hL.1
  have hbx : ∀ c ∈ bs.take L, c < 256 := fun c hc => hb c (List.mem_of_mem_take hc)
  clear h hb
  generalize bs.take L = xs at *
  have hxl : xs.length = L := by have := hx.1; rw [bvs_len] at this; omega
  have HXL := Lib.hid hxl
  have HX := Lib.hid hx
  have HB := Lib.hid hbx
  clear hx hbx hxl
  obtain ⟨may, hmay⟩ : ∃ may, okTag num wire = may := ⟨_, rfl⟩
  obtain ⟨pb, pe, hp⟩ : ∃ pb pe, tput num wire = (pb, pe) := ⟨_, _, rfl⟩
  have q1 : ((pe : Int) == 0) = may := by
    cases may with
    | false => rw [tput_no hmay] at hp; cases hp; rfl
    | true => rw [tput_ok hmay] at hp; cases hp; rfl
  have HP := Lib.hid hp
  have HM := Lib.hid hmay
  have hpb := tput_byte num wire
  rw [hp] at hpb
  have HPB := Lib.hid hpb
  clear hp hpb hmay
  go_enter Try.func4, Try.ntmps4
  go_wp2_with fail
  refine (shown_any _).mono ?_
  rintro e w1 ⟨rfl, hb1⟩
  go_wp2_with fail
  refine (short_any A n c w1 hnc hmax).mono ?_
  rintro e w1 ⟨rfl, rfl⟩
  rw [HLN.out]
  have hs1 := hb1.size
  go_wp2_with fail
  refine (put_tag num wire _ n0 n1 k0 k1).mono ?_
  rintro e w2 ⟨v, rfl, hown, hb2⟩
  rw [HP.out] at hown ⊢
  obtain ⟨A2, c2, rfl, hc2, hc22⟩ := slice_of_own hown
  have HO2 := Lib.hid (Rd.of_own hown)
  have hbw2 := hb1.trans (hb2.mono hs1)
  have hs2 := hb2.size
  clear hown
  generalize hpl : pb.length = m at *
  have HPL := Lib.hid hpl
  clear hpl
  go_upto_region 4 with fail
  go_cut [10] (fun b wx => b = .bool may ∧ wx = w2)
  case first =>
    by_cases h1 : 1 ≤ num
    · by_cases h2 : num ≤ 1000
      · by_cases h3 : wire = 0
        · have e1 : may = true := by rw [← HM.out]; exact okTag_iff.2 ⟨h1, h2, .inl h3⟩
          have q2 : (wire == 0) = true := by rw [h3]; rfl
          clear h3
          subst e1
          go_wp2
          go_meet
          case rel => exact ⟨rfl, rfl⟩
        · have q2 : (wire == 0) = false := beq_eq_false_iff_ne.2 h3
          by_cases h4 : wire = 2
          · have e1 : may = true := by rw [← HM.out]; exact okTag_iff.2 ⟨h1, h2, .inr h4⟩
            have q3 : (wire == 2) = true := by rw [h4]; rfl
            clear h4
            subst e1
            go_wp2
            go_meet
            case rel => exact ⟨rfl, rfl⟩
          · have q3 : (wire == 2) = false := beq_eq_false_iff_ne.2 h4
            have e1 : may = false := by
              cases hm : may with
              | false => rfl
              | true => have := okTag_iff.1 (HM.out.trans hm); omega
            clear h3 h4
            subst e1
            go_wp2
            go_meet
            case rel => exact ⟨rfl, rfl⟩
      · have e1 : may = false := by
          cases hm : may with
          | false => rfl
          | true => have := okTag_iff.1 (HM.out.trans hm); omega
        subst e1
        go_wp2
        go_meet
        case rel => exact ⟨rfl, rfl⟩
    · have e1 : may = false := by
        cases hm : may with
        | false => rfl
        | true => have := okTag_iff.1 (HM.out.trans hm); omega
      subst e1
      go_wp2
      go_meet
      case rel => exact ⟨rfl, rfl⟩
  case rest =>
    obtain ⟨rfl, rfl⟩ := hcut
    go_upto_if 48 with fail
    go_cut [] (fun wx => Below wc.heap.size wc wx)
    case first =>
      cases may with
      | false =>
        go_wp2
        go_meet
        case rel => exact Below.refl _ _
      | true =>
        have hok := okTag_iff.1 HM.out
        obtain ⟨tn, htn⟩ := Int.eq_ofNat_of_zero_le (show 0 ≤ num by omega)
        obtain ⟨tw, htw⟩ := Int.eq_ofNat_of_zero_le (show 0 ≤ wire by omega)
        have hlen2 := tput_len HM.out
        rw [HP.out, HPL.out] at hlen2
        have hm2 : 1 ≤ m ∧ m ≤ 2 := by split at hlen2 <;> omega
        have htk := ttake_put num wire xs HM.out
        rw [HP.out, HPL.out, show num.toNat = tn by omega, show wire.toNat = tw by omega] at htk
        have HT := Lib.hid (show tagged (ttake (pb ++ xs)) = .tuple #[.int .i64 (tn : Int), .int .i64 (tw : Int), .int .i64 (m : Int), .int .i64 0] by rw [htk]; rfl)
        have q2 : ((tn : Int) != num) = false := by rw [htn]; simp
        have q3 : ((tw : Int) != wire) = false := by rw [htw]; simp
        clear htn htw hlen2 htk hok
        go_wp2_with (at_builtin; refine wpList_append_rd _ rfl (.tmp 50) (.tmp 51) 22 rfl wc.heap.size 5 i0 (.int .u8 0) 1 1 Try.underlying22 hi hz0 hz1 hz2 rfl (by decide) _ 0 [] rfl (World.ownsRow_made (e := 5) wc #[] 0 (Nat.le_refl _) (by unfold maxLen; omega) rfl) wc.heap.size A2 m c2 (bvs pb) rfl (HO2.out.alloc (Nat.le_refl _) _) (bvs_one _) (by unfold maxLen; omega) (by omega) (by simp) ?_)
        intro v3 w3 hown3 hg3
        have hb3 : Below wc.heap.size wc w3 := ((Below.refl _ _).alloc (Nat.le_refl _) _).grown hg3 (by simp) (fun k hk => by simp [Value.ownBlock] at hk; omega)
        have hs3 := hb3.size
        have HO3 := Lib.hid hown3
        clear hown3 hg3
        go_wp2_with (at_builtin; refine wpList_append_rd _ rfl (.tmp 52) (.tmp 53) 22 rfl wc.heap.size 5 i0 (.int .u8 0) 1 1 Try.underlying22 hi hz0 hz1 hz2 rfl (by decide) _ m (bvs pb) rfl HO3.out w.heap.size A L c (bvs xs) rfl ((HX.out.below hbw2).below (hb3.mono hbw2.size)) (bvs_one _) (by unfold maxLen; omega) (by omega) (by omega) ?_)
        intro v4 w4 hown4 hg4
        have hb4 : Below wc.heap.size wc w4 := hb3.grown hg4 (by omega) (fun k hk => (HO3.out.lt k hk).1)
        rw [← bvs_app] at hown4
        obtain ⟨A4, c4, rfl, hc4, hc42⟩ := slice_of_own hown4
        have HO4 := Lib.hid (Rd.of_own hown4)
        clear hown4 hg4
        have hs4 := hb4.size
        have hbb : ∀ d ∈ pb ++ xs, d < 256 := by
          intro d hd
          rcases List.mem_append.1 hd with hd | hd
          · exact HPB.out d hd
          · exact HB.out d hd
        have HBB := Lib.hid hbb
        clear hbb
        go_wp2_with fail
        refine (take_tag A4 (m + L) c4 (pb ++ xs) _ HBB.out HO4.out hc4 hc42).mono ?_
        rintro e w5 ⟨rfl, hb5⟩
        rw [HT.out]
        go_wp2
        go_meet
        case rel => exact hb4.trans (hb5.mono hs4)
    case rest =>
      have hbw3 := hbw2.trans (hcut.mono hbw2.size)
      obtain ⟨tn, tw, ts, te, ht⟩ : ∃ a b c d, ttake xs = ⟨a, b, c, d⟩ := ⟨_, _, _, _, rfl⟩
      have HT := Lib.hid (show tagged (ttake xs) = .tuple #[.int .i64 (tn : Int), .int .i64 (tw : Int), .int .i64 (ts : Int), .int .i64 (te : Int)] by rw [ht]; rfl)
      go_wp2_with fail
      refine (take_tag A L c xs _ HB.out ((HX.out.below hbw3).more hbw3.size) (by omega) hmax).mono ?_
      rintro e w8 ⟨rfl, hb8⟩
      rw [HT.out]
      have hbw8 := hbw3.trans (hb8.mono hbw3.size)
      by_cases hte : te = 0
      · subst hte
        obtain ⟨hok, hts1, htsl, hts10, hpre⟩ := ttake_back HB.out (by rw [ht])
        rw [ht] at hok hts1 htsl hts10 hpre
        replace hok : okTag (tn : Int) (tw : Int) = true := hok
        replace hts1 : 1 ≤ ts := hts1
        replace htsl : ts ≤ L := by have h1 : ts ≤ xs.length := htsl; rw [HXL.out] at h1; exact h1
        replace hpre : xs.take ts = (tput tn tw).1 := hpre
        obtain ⟨yb, hyb⟩ : ∃ yb, tput tn tw = (yb, 0) := ⟨_, tput_ok hok⟩
        rw [hyb] at hpre
        replace hpre : xs.take ts = yb := hpre
        have hyl : yb.length = ts := by rw [← hpre, List.length_take, HXL.out]; omega
        have hyx : ((strOf yb).toList == (strOf (xs.take ts)).toList) = true := by rw [hpre]; simp
        have hrng := ttake_le HB.out
        rw [ht] at hrng
        have hr1 : tn ≤ 1000 := hrng.1
        have hr2 : tw ≤ 2 := hrng.2.1
        have HYX := Lib.hid hyx
        have HYB := Lib.hid hyb
        have HYL := Lib.hid hyl
        clear ht hok hpre hyb hyl hyx hrng
        go_wp2_with fail
        refine (put_tag tn tw _ (by omega) (by omega) (by omega) (by omega)).mono ?_
        rintro e w9 ⟨v, rfl, hown, hb9⟩
        rw [HYB.out] at hown ⊢
        replace hown : w9.ownsRow w8.heap.size 5 1 v ts (bvs yb) := by have h1 := hown; simp only [HYL.out] at h1; exact h1
        obtain ⟨A9, c9, rfl, hc9, hc92⟩ := slice_of_own hown
        have HO9 := Lib.hid (Rd.of_own hown)
        have hbw9 := hbw8.trans (hb9.mono hbw8.size)
        clear hown
        go_wp2
        refine wp_region_grew (n := 137) (Say [(111, isv (.bool true)), (112, isv (.bool true)), (113, isv (.int .i64 0)), (114, isv (.bool true)), (115, isv (.bool true)), (116, isv (.bool true)), (117, isv (.int .i64 (ts : Int))), (118, isv (.slice A9 ts c9)), (119, isv (.int .i64 (ts : Int))), (120, isv (.bool true)), (121, isv (.bool true)), (122, isv (.bool true)), (123, isv (.int .i64 (ts : Int))), (124, isv (.slice A L c)), (125, isv (.int .i64 (L : Int))), (126, isv (.bool true)), (127, isv (.bool true)), (128, isv (.bool true)), (129, isv (.slice A9 ts c9)), (130, isv (.string (strOf yb))), (131, isv (.slice A L c)), (132, isv (.int .i64 (ts : Int))), (133, isv (.slice A ts c)), (134, isv (.string (strOf (xs.take ts)))), (135, isv (.bool true)), (136, isv (.bool true)), (6, isv (.bool true))]) (by kernel_rfl) (by kernel_rfl) rfl ⟨?_, ?_, ?_, ?_, ?_, ?_, ?_, ?_, ?_, ?_, ?_, ?_, ?_, ?_, ?_, ?_, ?_, ?_, ?_, ?_, ?_, ?_, ?_, ?_, ?_, ?_, ?_, trivial⟩ ?_
        · exact owed_move rfl rfl (.inl rfl) fun fr w _ hK => known_out hK 7 (by kernel_rfl)
        · exact owed_move rfl rfl (.inl rfl) fun fr w _ hK => known_in hK 111 (by kernel_rfl)
        · exact owed_movew rfl rfl rfl (by kernel_rfl) (fun _ _ h => h) (.inl rfl) fun fr w _ hK => known_out hK 20 (by kernel_rfl)
        · refine owed_wval _ rfl rfl rfl (by kernel_rfl) (fun _ _ h => h) (fun _ => rfl) fun fr w hC hK => ?_
          have k113 : slot fr 113 = .int .i64 0 := known_in hK 113 (by kernel_rfl)
          clear hK
          unfold slot at k113
          go_simp
        · refine owed_val _ rfl rfl (fun _ => rfl) fun fr w hC hK => ?_
          have k112 : slot fr 112 = .bool true := known_in hK 112 (by kernel_rfl)
          have k114 : slot fr 114 = .bool true := known_in hK 114 (by kernel_rfl)
          clear hK
          unfold slot at k112 k114
          go_simp
        · exact owed_move rfl rfl (.inl rfl) fun fr w _ hK => known_in hK 115 (by kernel_rfl)
        · exact owed_movew rfl rfl rfl (by kernel_rfl) (fun _ _ h => h) (.inl rfl) fun fr w _ hK => known_out hK 17 (by kernel_rfl)
        · exact owed_movew rfl rfl rfl (by kernel_rfl) (fun _ _ h => h) (.inl rfl) fun fr w _ hK => known_out hK 19 (by kernel_rfl)
        · refine owed_wval _ rfl rfl rfl (by kernel_rfl) (fun _ _ h => h) (fun _ => rfl) fun fr w hC hK => ?_
          have k118 : slot fr 118 = .slice A9 ts c9 := known_in hK 118 (by kernel_rfl)
          clear hK
          unfold slot at k118
          go_simp
        · refine owed_wval _ rfl rfl rfl (by kernel_rfl) (fun _ _ h => h) (fun _ => rfl) fun fr w hC hK => ?_
          have k117 : slot fr 117 = .int .i64 (ts : Int) := known_in hK 117 (by kernel_rfl)
          have k119 : slot fr 119 = .int .i64 (ts : Int) := known_in hK 119 (by kernel_rfl)
          clear hK
          unfold slot at k117 k119
          go_simp
        · refine owed_val _ rfl rfl (fun _ => rfl) fun fr w hC hK => ?_
          have k116 : slot fr 116 = .bool true := known_in hK 116 (by kernel_rfl)
          have k120 : slot fr 120 = .bool true := known_in hK 120 (by kernel_rfl)
          clear hK
          unfold slot at k116 k120
          go_simp
        · exact owed_move rfl rfl (.inl rfl) fun fr w _ hK => known_in hK 121 (by kernel_rfl)
        · exact owed_movew rfl rfl rfl (by kernel_rfl) (fun _ _ h => h) (.inl rfl) fun fr w _ hK => known_out hK 17 (by kernel_rfl)
        · exact owed_movew rfl rfl rfl (by kernel_rfl) (fun _ _ h => h) (.inl rfl) fun fr w _ hK => known_out hK 2 (by kernel_rfl)
        · refine owed_wval _ rfl rfl rfl (by kernel_rfl) (fun _ _ h => h) (fun _ => rfl) fun fr w hC hK => ?_
          have k124 : slot fr 124 = .slice A L c := known_in hK 124 (by kernel_rfl)
          clear hK
          unfold slot at k124
          go_simp
        · refine owed_wval _ rfl rfl rfl (by kernel_rfl) (fun _ _ h => h) (fun _ => rfl) fun fr w hC hK => ?_
          have k123 : slot fr 123 = .int .i64 (ts : Int) := known_in hK 123 (by kernel_rfl)
          have k125 : slot fr 125 = .int .i64 (L : Int) := known_in hK 125 (by kernel_rfl)
          clear hK
          unfold slot at k123 k125
          have f1 : (ts : Int) ≤ (L : Int) := by omega
          go_simp
        · refine owed_val _ rfl rfl (fun _ => rfl) fun fr w hC hK => ?_
          have k122 : slot fr 122 = .bool true := known_in hK 122 (by kernel_rfl)
          have k126 : slot fr 126 = .bool true := known_in hK 126 (by kernel_rfl)
          clear hK
          unfold slot at k122 k126
          go_simp
        · exact owed_move rfl rfl (.inl rfl) fun fr w _ hK => known_in hK 127 (by kernel_rfl)
        · exact owed_movew rfl rfl rfl (by kernel_rfl) (fun _ _ h => h) (.inl rfl) fun fr w _ hK => known_out hK 19 (by kernel_rfl)
        · refine owed_wval _ rfl rfl rfl (by kernel_rfl) (fun _ _ h => h) (fun _ => rfl) fun fr w hC hK => ?_
          have k129 : slot fr 129 = .slice A9 ts c9 := known_in hK 129 (by kernel_rfl)
          clear hK
          unfold slot at k129
          have r1 : Rd w w9.heap.size 1 A9 ts (bvs yb) := HO9.out.below hC
          have s := run_str (P := Try.prog) w 22 9 5 Try.underlying22 Try.underlying5 Try.underlying9 r1 c9
          go_simp
        · exact owed_movew rfl rfl rfl (by kernel_rfl) (fun _ _ h => h) (.inl rfl) fun fr w _ hK => known_out hK 2 (by kernel_rfl)
        · exact owed_movew rfl rfl rfl (by kernel_rfl) (fun _ _ h => h) (.inl rfl) fun fr w _ hK => known_out hK 17 (by kernel_rfl)
        · refine owed_wval _ rfl rfl rfl (by kernel_rfl) (fun _ _ h => h) (fun _ => rfl) fun fr w hC hK => ?_
          have k131 : slot fr 131 = .slice A L c := known_in hK 131 (by kernel_rfl)
          have k132 : slot fr 132 = .int .i64 (ts : Int) := known_in hK 132 (by kernel_rfl)
          clear hK
          unfold slot at k131 k132
          have f1 : (0 : Int) ≤ (ts : Int) := by omega
          have f2 : (ts : Int) ≤ (c : Int) := by omega
          go_simp
        · refine owed_wval _ rfl rfl rfl (by kernel_rfl) (fun _ _ h => h) (fun _ => rfl) fun fr w hC hK => ?_
          have k133 : slot fr 133 = .slice A ts c := known_in hK 133 (by kernel_rfl)
          clear hK
          unfold slot at k133
          have r1 : Rd w w.heap.size 1 A ts (bvs (xs.take ts)) := (((HX.out.below hbw9).more hbw9.size).below hC).more hC.size |>.bytes_to (by omega)
          have s := run_str (P := Try.prog) w 22 9 5 Try.underlying22 Try.underlying5 Try.underlying9 r1 c
          go_simp
        · refine owed_wval _ rfl rfl rfl (by kernel_rfl) (fun _ _ h => h) (fun _ => rfl) fun fr w hC hK => ?_
          have k130 : slot fr 130 = .string (strOf yb) := known_in hK 130 (by kernel_rfl)
          have k134 : slot fr 134 = .string (strOf (xs.take ts)) := known_in hK 134 (by kernel_rfl)
          clear hK
          unfold slot at k130 k134
          have f1 := HYX.out
          go_simp
        · refine owed_val _ rfl rfl (fun _ => rfl) fun fr w hC hK => ?_
          have k128 : slot fr 128 = .bool true := known_in hK 128 (by kernel_rfl)
          have k135 : slot fr 135 = .bool true := known_in hK 135 (by kernel_rfl)
          clear hK
          unfold slot at k128 k135
          go_simp
        · exact owed_move rfl rfl (.inr rfl) fun fr w _ hK => known_in hK 136 (by kernel_rfl)
        intro vs w' hg hgood
        have h6 : vs 6 = .bool true := hgood.2.2.2.2.2.2.2.2.2.2.2.2.2.2.2.2.2.2.2.2.2.2.2.2.2.2.1
        clear hgood
        simp only [putsOf]
        go_simp
        go_wp2
        go_ret
        exact ⟨rfl, hbw9.trans (hg.mono hbw9.size)⟩
      · obtain ⟨h1, h2, h3⟩ := ttake_err (bs := xs) (by rw [ht]; exact hte)
        rw [ht] at h1 h2 h3
        obtain rfl : tn = 0 := h1
        obtain rfl : tw = 0 := h2
        obtain rfl : ts = 0 := h3
        have q2 : ((te : Int) != 0) = true := by rw [bne_iff_ne]; omega
        clear ht
        go_wp2
        go_ret
        exact ⟨by simp, hbw8⟩
end Go.Proofs.Ytpenedfinfiecaa.Tg
