/-
  The walk of the law RefsBounds.
-/
import Derived.Test.YtcbfcjpmoechlaaRfShown
import Derived.Test.YtcbfcjpmoechlaaRfFew
import Derived.Test.YtcbfcjpmoechlaaRfBoundsP
import Derived.BigQuiet
set_option linter.unusedVariables false
set_option linter.unusedSimpArgs false
namespace Go.Proofs.Ytcbfcjpmoechlaa
open Go.RowKit
open Rf (Snp cnt haveTo okTo sumN freeN)

set_option maxHeartbeats 4000000 in
set_option maxRecDepth 100000 in
theorem rfbounds_any (A : Option Addr) (n c : Nat) (l : List Snp) (S : List (Option Addr × Nat)) (w : World) (h : RdS w w.heap.size A n l S) (hnc : n ≤ c) (hmax : c ≤ 9223372036854775807) (hw : ∀ a ∈ l, Snok a) :
    Calls Try.prog 6 #[.slice A n c] w fun e w' => e = .returned (.bool true) ∧ Below w.heap.size w w' := by
  obtain ⟨i0, hi, hz0, hz1, hz2⟩ := info_parts int_info
  obtain ⟨F, hF⟩ : ∃ F, fewS l = F := ⟨_, rfl⟩
  have HMF := Lib.hid (hF ▸ fewS_many l)
  have HOF := Lib.hid (hF ▸ fewS_ok hw)
  have hfl : F.length ≤ 20 := by rw [← hF, fewS_len]; omega
  have HR := Lib.hid h
  have HFF := Lib.hid hF
  clear h hw hF
  go_enter Try.func6, Try.ntmps6
  go_wp2_with fail
  refine (rfshown_any w).mono ?_
  rintro e w1 ⟨rfl, hb1⟩
  replace HR := Lib.hid ((HR.out.below hb1).more hb1.size)
  go_wp2_with fail
  refine (fews_any A n c l S w1 HR.out hnc hmax).mono ?_
  rintro e w2 ⟨v2, rfl, ⟨A1, n1, c1, S1, rfl, hn1, hc1, hr1⟩, hb2⟩
  have hbw2 := hb1.trans (hb2.mono hb1.size)
  rw [HFF.out] at hr1
  have hn20 : n1 ≤ 20 := by have := hr1.1; omega
  replace HR := Lib.hid hr1
  clear hr1 hb1 hb2 HFF
  go_wp2
  go_loop [4, 5] (fun t i => ∃ j : Nat, j ≤ n1 ∧ i = .int .i64 (j : Int) ∧ t = .int .i64 ((haveTo (F.take j) 64 : Nat) : Int)) (fun _ i => n1 - (intOf i).toNat)
  case atStart => exact ⟨0, Nat.zero_le _, rfl, rfl⟩
  case round =>
    obtain ⟨j, hj, rfl, rfl⟩ := hrel
    by_cases hlt : j < n1
    · obtain ⟨ad, a, ⟨s1, s2⟩, rfl, hab, ha, hs, g0, g1, g2, g3, g4, hrd, hs1, hs2⟩ := rds_get HR.out hlt
      simp only at g2 hs1 hs2 hrd
      have HT := Lib.hid (Rf.have_take ha 64)
      have HMM := Lib.hid (Rf.many_mem ha)
      have HCL := Lib.hid (Rf.haveTo_le (F.take j) 64)
      obtain ⟨t, ht⟩ : ∃ t, haveTo (F.take j) 64 = t := ⟨_, rfl⟩
      rw [ht] at HT HCL ⊢
      clear ha hs g0 g1 g3 g4 ht
      go_wp2
      go_loop [4, 6] (fun m i => ∃ k : Nat, k ≤ a.chunks.length ∧ i = .int .i64 (k : Int) ∧ m = .int .i64 ((t + (a.chunks.take k).countP (okTo 64) : Nat) : Int)) (fun _ i => a.chunks.length - (intOf i).toNat)
      case atStart => exact ⟨0, Nat.zero_le _, rfl, by simp⟩
      case round =>
        obtain ⟨k, hk, rfl, rfl⟩ := hrel
        by_cases hkl : k < a.chunks.length
        · obtain ⟨ac, y, rfl, hac, hy, gy⟩ := hrd.int hkl
          have hC := Rf.okc_take hy 64
          have hle := List.countP_le_length (p := okTo 64) (l := a.chunks.take k)
          rw [List.length_take] at hle
          obtain ⟨u, hu⟩ : ∃ u, (a.chunks.take k).countP (okTo 64) = u := ⟨_, rfl⟩
          rw [hu] at hC hle ⊢
          have hb9 : t + u ≤ 1000000000 := by have := HMM.out; have := HCL.out; have := HMF.out; omega
          clear hy hu
          by_cases h1 : 1 ≤ y
          · by_cases h2 : y ≤ 64
            · rw [if_pos (show okTo 64 y = true by simp [okTo, h1, h2])] at hC
              have HC := Lib.hid hC
              clear hC
              go_wp2
              go_round
              case rel => exact ⟨k + 1, by omega, by go_num, by rw [HC.out]; go_num⟩
              case measure => simp [intOf]; omega
            · rw [if_neg (show ¬ okTo 64 y = true by simp [okTo]; omega)] at hC
              have HC := Lib.hid hC
              clear hC
              go_wp2
              go_round
              case rel => exact ⟨k + 1, by omega, by go_num, by rw [HC.out]; rfl⟩
              case measure => simp [intOf]; omega
          · rw [if_neg (show ¬ okTo 64 y = true by simp [okTo]; omega)] at hC
            have HC := Lib.hid hC
            clear hC
            go_wp2
            go_round
            case rel => exact ⟨k + 1, by omega, by go_num, by rw [HC.out]; rfl⟩
            case measure => simp [intOf]; omega
        · obtain rfl : a.chunks.length = k := by omega
          have ht := HT.out
          rw [← List.take_length (l := a.chunks)] at ht
          have HT2 := Lib.hid ht
          clear ht
          go_wp2
          go_round
          case rel => exact ⟨j + 1, by omega, by go_num, by rw [HT2.out]⟩
          case measure => simp [intOf]; omega
    · obtain rfl : n1 = j := by omega
      have hfull : F.take n1 = F := List.take_of_length_le (by have := HR.out.1; omega)
      rw [hfull]
      have hhm := Rf.haveTo_le F 64
      have hsum := Rf.sumN_have F 64
      have hdh := Rf.distinctN_have F 64
      have hdl := Rf.distinct_le F
      obtain ⟨hv, hhv⟩ : ∃ x, haveTo F 64 = x := ⟨_, rfl⟩
      rw [hhv] at hhm hsum hdh ⊢
      have HSUM := Lib.hid hsum
      have HDH := Lib.hid hdh
      clear hfull hhv hsum hdh
      go_wp2_with fail
      refine (counts_r A1 n1 c1 F S1 w2 HR.out hn1 hc1 (by omega) (Nat.le_trans HMF.out (by omega)) HOF.out).mono ?_
      rintro e w3 ⟨v3, rfl, ⟨A8, n8, c8, rfl, hn8, hc8, hl8, hr8⟩, hb3⟩
      have hbw3 := hbw2.trans (hb3.mono hbw2.size)
      replace HR := Lib.hid ((HR.out.below hb3).more hb3.size)
      obtain rfl : n8 = 65 := by rw [← hl8, Rf.counts_len]
      have H8 := Lib.hid hr8
      obtain ⟨a0, x0, hA0, ha0, hx0, g0⟩ := hr8.int (show 0 < 65 by omega)
      subst hA0
      obtain rfl : x0 = 0 := by rw [Rf.counts_zero] at hx0; exact (Option.some.inj hx0).symm
      rw [ad_zero] at g0
      clear hr8 hb3 hbw2 hl8 hx0
      have g0' := (((Below.refl _ w3).alloc (Nat.le_refl _) (.cells #[] 3)).cell (p := a0) ha0).trans g0
      go_wp2
      go_loopw [8, 9, 10] (fun s f i wr => ∃ j m : Nat, j ≤ 64 ∧ m ≤ 5 ∧ i = .int .i64 ((j : Int) + 1) ∧ s = .int .i64 ((sumN F j : Nat) : Int) ∧ (freeN F j).length = m ∧ wr.ownsRow w3.heap.size 3 1 f m (ivs (freeN F j)) ∧ Below w3.heap.size w3 wr) (fun _ _ i _ => 66 - (intOf i).toNat)
      case atStart => exact ⟨0, 0, by omega, by omega, rfl, rfl, rfl, World.ownsRow_made (e := 3) (size := 1) (base := w3.heap.size) w3 #[] 0 (Nat.le_refl _) (by unfold maxLen; omega) rfl, (Below.refl _ _).alloc (Nat.le_refl _) _⟩
      case round =>
        clear g0 g0'
        obtain ⟨j, m, hj, hm, rfl, rfl, hlen, hown, hb⟩ := hrel
        obtain ⟨wx, rfl⟩ : ∃ wx, wx = wr := ⟨_, rfl⟩
        obtain ⟨Af, cf, hvf, hcf, hmf⟩ := slice_of_own hown
        subst hvf
        have HO := Lib.hid hown
        have HLN := Lib.hid hlen
        have hsz := hb.size
        clear hown hlen
        by_cases hlt : j < 64
        · obtain ⟨a1, x1, hA1, ha1, hx1, g1⟩ := (H8.out.below hb).int (show j + 1 < 65 by omega)
          obtain rfl := Option.some.inj hA1
          rw [Rf.counts_get _ (by omega) (by omega)] at hx1
          obtain rfl := (Option.some.inj hx1).symm
          have hcl := Nat.le_trans (Rf.cnt_le F ((j + 1 : Nat) : Int)) HMF.out
          have hs0 := Nat.le_trans (Nat.le_of_eq (Rf.sumN_have F j)) (Nat.le_trans (Rf.haveTo_le F j) HMF.out)
          have hSS : sumN F (j + 1) = sumN F j + cnt F ((j + 1 : Nat) : Int) := rfl
          have hFF : freeN F (j + 1) = if cnt F ((j + 1 : Nat) : Int) = 0 ∧ m < 5 then freeN F j ++ [((j + 1 : Nat) : Int)] else freeN F j := by
            rw [← HLN.out]; rfl
          obtain ⟨x, hx⟩ : ∃ x, cnt F ((j + 1 : Nat) : Int) = x := ⟨_, rfl⟩
          obtain ⟨s, hs⟩ : ∃ s, sumN F j = s := ⟨_, rfl⟩
          rw [hx] at hcl hSS hFF g1
          rw [hs] at hs0 hSS ⊢
          have HSS := Lib.hid hSS
          rw [show a0.add (j + 1) = ⟨a0.block, a0.off + (j + 1), none⟩ by unfold Addr.add; rw [if_neg (by omega)]] at g1
          clear hA1 hx1 hSS hx hs
          have hj1 : (j : Int) + 1 < 65 := by omega
          by_cases hx0 : x = 0
          · subst hx0
            rw [show ((0 : Nat) : Int) = 0 from rfl] at g1
            by_cases hm5 : m < 5
            · rw [if_pos ⟨rfl, hm5⟩] at hFF
              have HFR := Lib.hid hFF
              clear hFF
              go_wp2_with (at_builtin; refine wpList_append_rd _ rfl (.tmp 87) (.tmp 89) 23 rfl w3.heap.size 3 i0 (.int .i64 0) 1 8 Try.underlying23 hi hz0 hz1 hz2 rfl (by decide) _ m _ rfl (HO.out.alloc _) (wx.heap.size + 1) (some ⟨wx.heap.size, 0, none⟩) 1 1 [.int .i64 ((j : Int) + 1)] rfl (rd_new wx [.int .i64 ((j : Int) + 1)] 3) (ivs_one [(j : Int) + 1]) (by unfold maxLen; omega) (by omega) (by simp; omega) ?_)
              intro v3 wz hown3 hg3
              have hb3 : Below w3.heap.size w3 wz := (hb.alloc hsz _).grown hg3 (by simp; omega) (fun k hk => (HO.out.lt k hk).1)
              clear hg3
              go_wp2
              go_roundw
              case rel => exact ⟨j + 1, m + 1, by omega, by omega, by go_num, by rw [HSS.out]; go_num, by rw [HFR.out, List.length_append, HLN.out]; rfl, by rw [HFR.out, ivs_app]; exact hown3, hb3⟩
              case measure => simp [intOf]; omega
            · rw [if_neg (fun h => hm5 h.2)] at hFF
              have HFR := Lib.hid hFF
              clear hFF
              go_wp2
              go_roundw
              case rel => exact ⟨j + 1, m, by omega, hm, by go_num, by rw [HSS.out]; go_num, by rw [HFR.out]; exact HLN.out, by rw [HFR.out]; exact HO.out, hb⟩
              case measure => simp [intOf]; omega
          · rw [if_neg (fun h => hx0 h.1)] at hFF
            have HFR := Lib.hid hFF
            have q0 : ((x : Int) == 0) = false := by rw [beq_eq_false_iff_ne]; omega
            clear hFF
            go_wp2
            go_roundw
            case rel => exact ⟨j + 1, m, by omega, hm, by go_num, by rw [HSS.out]; go_num, by rw [HFR.out]; exact HLN.out, by rw [HFR.out]; exact HO.out, hb⟩
            case measure => simp [intOf]; omega
        · obtain rfl : j = 64 := by omega
          have HRF := Lib.hid (Rd.of_own HO.out)
          have hwf := Rf.with_free F
          rw [HLN.out] at hwf
          replace HR := Lib.hid ((HR.out.below hb).more hb.size)
          have hbwx := hbw3.trans (hb.mono hbw3.size)
          have HCD := Lib.hid (fun w h => distinct_r A1 n1 c1 F S1 w h hn1 hc1 (by omega) (Nat.le_trans HMF.out (by omega)) HOF.out)
          have HCW := Lib.hid (fun w h h' => with_r A1 Af n1 m c1 cf F S1 (freeN F 64) w h hn1 hc1 (by omega) h' hcf hmf (by have := HMF.out; have := HLN.out; omega) HOF.out (fun x hx => by have := Rf.freeN_mem F 64 x hx; exact ⟨by omega, by omega⟩))
          rw [hwf] at HCW
          have hdh : Rf.distinct F ≤ hv := HDH.out
          obtain ⟨d, hd⟩ : ∃ d, Rf.distinct F = d := ⟨_, rfl⟩
          rw [hd] at hdl hdh HCD HCW
          rw [HSUM.out]
          clear hwf hd hb
          go_wp2_with fail
          refine (HCD.out wx HR.out).mono ?_
          rintro e w5 ⟨rfl, hb⟩
          replace HR := Lib.hid ((HR.out.below hb).more hb.size)
          replace HRF := Lib.hid ((HRF.out.below hb).more hb.size)
          have hbw5 := hbwx.trans (hb.mono hbwx.size)
          clear hb
          go_wp2_with fail
          refine (HCW.out w5 HR.out HRF.out).mono ?_
          rintro e w6 ⟨rfl, hb⟩
          have hbw6 := hbw5.trans (hb.mono hbw5.size)
          clear hb
          go_wp2
          go_ret
          exact ⟨by simp, hbw6⟩
end Go.Proofs.Ytcbfcjpmoechlaa
