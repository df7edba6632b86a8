/-
  The walk of the law RefsAdds.
-/
import Derived.Test.YtcbfcjpmoechlaaRfAllL
import Derived.Test.YtcbfcjpmoechlaaRfAddsP
import Derived.BigQuiet
set_option linter.unusedVariables false
set_option linter.unusedSimpArgs false
namespace Go.Proofs.Ytcbfcjpmoechlaa
open Go.RowKit
open Rf (Snp cc)

set_option maxHeartbeats 4000000 in
set_option maxRecDepth 100000 in
theorem rfadds_any (A B A' : Option Addr) (n m n' c d c' : Nat) (l k : List Snp) (S U : List (Option Addr × Nat)) (ch : List Int) (w : World) (h : RdS w w.heap.size A n l S) (hnc : n ≤ c) (hmax : c ≤ 9223372036854775807) (hw : ∀ a ∈ l, Snok a)
    (g : RdS w w.heap.size B m k U) (hnd : m ≤ d) (hdmax : d ≤ 9223372036854775807) (gw : ∀ a ∈ k, Snok a) (h' : Rd w w.heap.size 1 A' n' (ivs ch)) (hnc' : n' ≤ c') (hmax' : c' ≤ 9223372036854775807) (hch : ∀ x ∈ ch, I64 x) :
    Calls Try.prog 5 #[.slice A n c, .slice B m d, .slice A' n' c'] w fun e w' => e = .returned (.bool true) ∧ Below w.heap.size w w' := by
  obtain ⟨i0, hi, hz0, hz1, hz2⟩ := info_parts snap_info
  obtain ⟨q, hq⟩ : ∃ q, min n' 12 = q := ⟨_, rfl⟩
  obtain ⟨F, hF⟩ : ∃ F, fewS l = F := ⟨_, rfl⟩
  obtain ⟨G, hG⟩ : ∃ G, fewS k = G := ⟨_, rfl⟩
  obtain ⟨C, hC⟩ : ∃ C, ch.take 12 = C := ⟨_, rfl⟩
  have hqc : q ≤ c' ∧ q ≤ 12 := by omega
  obtain ⟨hrc, hcl⟩ := short_rd h'
  rw [hC, hq] at hrc hcl
  have HMF := Lib.hid (hF ▸ fewS_many l)
  have HMG := Lib.hid (hG ▸ fewS_many k)
  have HOF := Lib.hid (hF ▸ fewS_ok hw)
  have HOG := Lib.hid (hG ▸ fewS_ok gw)
  have hfl : F.length ≤ 20 := by rw [← hF, fewS_len]; omega
  have hgl : G.length ≤ 20 := by rw [← hG, fewS_len]; omega
  have HOC := Lib.hid (show ∀ x ∈ C, I64 x from fun x hx => hch x (List.mem_of_mem_take (by rw [hC]; exact hx)))
  have HOFG := Lib.hid (show ∀ a ∈ F ++ G, Snok a from fun a ha => (List.mem_append.1 ha).elim (HOF.out a) (HOG.out a))
  have HOGF := Lib.hid (show ∀ a ∈ G ++ F, Snok a from fun a ha => (List.mem_append.1 ha).elim (HOG.out a) (HOF.out a))
  have HMFG := Lib.hid (show Rf.many (F ++ G) ≤ 1000000000 by rw [Rf.many_app]; have := HMF.out; have := HMG.out; omega)
  have HMGF := Lib.hid (show Rf.many (G ++ F) ≤ 1000000000 by rw [Rf.many_app]; have := HMF.out; have := HMG.out; omega)
  have HR := Lib.hid h
  have HG := Lib.hid g
  have HC := Lib.hid hrc
  have HCL := Lib.hid hcl
  have HFF := Lib.hid hF
  have HGG := Lib.hid hG
  have HS := Lib.hid (short6_any A' n' c' · hnc' hmax')
  rw [hq] at HS
  have hbw : Below w.heap.size w w := Below.refl _ _
  clear h g h' hw gw hch hrc hcl hF hG hC hq
  go_enter Try.func5, Try.ntmps5
  go_wp2_with fail
  refine (rfshown_any w).mono ?_
  rintro e w1 ⟨rfl, hb⟩
  have hbw1 := hbw.trans (hb.mono hbw.size)
  replace HR := Lib.hid ((HR.out.below hb).more hb.size)
  replace HG := Lib.hid ((HG.out.below hb).more hb.size)
  replace HC := Lib.hid ((HC.out.below hb).more hb.size)
  clear hb hbw
  go_wp2_with fail
  refine (fews_any A n c l S w1 HR.out hnc hmax).mono ?_
  rintro e w2 ⟨v2, rfl, ⟨A1, n1, c1, S1, rfl, hn1, hc1, hr1⟩, hb⟩
  have hbw2 := hbw1.trans (hb.mono hbw1.size)
  replace HG := Lib.hid ((HG.out.below hb).more hb.size)
  replace HC := Lib.hid ((HC.out.below hb).more hb.size)
  rw [HFF.out] at hr1
  have hn20 : n1 ≤ 20 := by have := hr1.1; omega
  replace HR := Lib.hid hr1
  clear hr1 hb hbw1 HFF
  go_wp2_with fail
  refine (fews_any B m d k U w2 HG.out hnd hdmax).mono ?_
  rintro e w3 ⟨v3, rfl, ⟨A2, n2, c2, S2, rfl, hn2, hc2, hr2⟩, hb⟩
  have hbw3 := hbw2.trans (hb.mono hbw2.size)
  replace HR := Lib.hid ((HR.out.below hb).more hb.size)
  replace HC := Lib.hid ((HC.out.below hb).more hb.size)
  rw [HGG.out] at hr2
  have hm20 : n2 ≤ 20 := by have := hr2.1; omega
  replace HG := Lib.hid hr2
  clear hr2 hb hbw2 HGG
  go_wp2_with fail
  refine (HS.out w3).mono ?_
  rintro _ _ ⟨rfl, rfl⟩
  go_wp2_with fail
  refine (counts_r A1 n1 c1 F S1 w3 HR.out hn1 hc1 (by omega) (Nat.le_trans HMF.out (by omega)) HOF.out).mono ?_
  rintro e w4 ⟨v, rfl, ⟨Y1, y1, z1, rfl, hy1, hzz1, hl1, hr⟩, hb⟩
  have hbw4 := hbw3.trans (hb.mono hbw3.size)
  replace HR := Lib.hid ((HR.out.below hb).more hb.size)
  replace HG := Lib.hid ((HG.out.below hb).more hb.size)
  replace HC := Lib.hid ((HC.out.below hb).more hb.size)
  obtain rfl : y1 = 65 := by rw [← hl1, Rf.counts_len]
  have HY1 := Lib.hid hr
  clear hr hb hbw3 hl1
  go_wp2_with fail
  refine (counts_r A2 n2 c2 G S2 w4 HG.out hn2 hc2 (by omega) (Nat.le_trans HMG.out (by omega)) HOG.out).mono ?_
  rintro e w5 ⟨v, rfl, ⟨Y2, y2, z2, rfl, hy2, hzz2, hl2, hr⟩, hb⟩
  have hbw5 := hbw4.trans (hb.mono hbw4.size)
  replace HR := Lib.hid ((HR.out.below hb).more hb.size)
  replace HG := Lib.hid ((HG.out.below hb).more hb.size)
  replace HC := Lib.hid ((HC.out.below hb).more hb.size)
  replace HY1 := Lib.hid ((HY1.out.below hb).more hb.size)
  obtain rfl : y2 = 65 := by rw [← hl2, Rf.counts_len]
  have HY2 := Lib.hid hr
  clear hr hb hbw4 hl2
  go_wp2_with (at_builtin; refine wpList_append_rd _ rfl (.tmp 26) (.tmp 27) 22 rfl w5.heap.size 36 i0 (.agg #[.int .i64 0, .int .i64 0, .slice none 0 0, .bool false, .string (strOf [])]) 5 64 Try.underlying22 hi hz0 hz1 hz2 rfl (by decide) _ 0 [] rfl (World.ownsRow_made (e := 36) w5 #[] 0 (Nat.le_refl _) (by unfold maxLen; omega) rfl) w5.heap.size A1 n1 c1 (pcells sncells F S1) rfl (HR.out.2.2.1.alloc (Nat.le_refl _) _) (pcells_cell sn_one _ _) (by unfold maxLen; omega) (by omega) (by simp) ?_)
  intro vp1 wp1 hown hg
  have hbp1 : Below w5.heap.size w5 wp1 := ((Below.refl _ _).alloc (Nat.le_refl _) _).grown hg (by simp) (fun k hk => by simp [Value.ownBlock] at hk; omega)
  obtain ⟨Xp1, xp1, rfl, _, _⟩ := slice_of_own hown
  have HOp1 := Lib.hid hown
  clear hg hown
  go_wp2_with (at_builtin; refine wpList_append_rd _ rfl (.tmp 28) (.tmp 29) 22 rfl w5.heap.size 36 i0 (.agg #[.int .i64 0, .int .i64 0, .slice none 0 0, .bool false, .string (strOf [])]) 5 64 Try.underlying22 hi hz0 hz1 hz2 rfl (by decide) _ n1 (pcells sncells F S1) rfl HOp1.out w5.heap.size A2 n2 c2 (pcells sncells G S2) rfl ((HG.out.below hbp1).2.2.1) (pcells_cell sn_one _ _) (by unfold maxLen; omega) (by omega) hbp1.size ?_)
  intro vp2 wp2 hown hg
  have hbp2 : Below w5.heap.size w5 wp2 := hbp1.grown hg hbp1.size (fun k hk => (HOp1.out.lt k hk).1)
  have hN := snaps_of_own (l := F ++ G) (S := S1 ++ S2) (B := w5.heap.size) (by rw [pcells_app _ _ _ _ (by rw [HR.out.1, HR.out.2.1])]; exact hown) (by rw [List.length_append, HR.out.1, HG.out.1]) ((HR.out.inner.app HG.out.inner).below hbp2) hbp2.size
  obtain ⟨Xp2, Np, xp2, Tp, rfl, hNp, hXp, hrp⟩ := hN
  have hN40p : Np ≤ 40 := by have := hrp.1; rw [List.length_append, HR.out.1, HG.out.1] at this; omega
  have HRp := Lib.hid hrp
  have hbwp2 := hbw5.trans (hbp2.mono hbw5.size)
  clear hg hown hrp hbp1
  replace HR := Lib.hid ((HR.out.below hbp2).more hbp2.size)
  replace HG := Lib.hid ((HG.out.below hbp2).more hbp2.size)
  replace HC := Lib.hid ((HC.out.below hbp2).more hbp2.size)
  replace HY1 := Lib.hid ((HY1.out.below hbp2).more hbp2.size)
  replace HY2 := Lib.hid ((HY2.out.below hbp2).more hbp2.size)
  have hbwp2 := hbwp2
  clear hbp2 hbw5
  go_wp2_with fail
  refine (counts_r Xp2 Np xp2 (F ++ G) Tp wp2 HRp.out hNp hXp (by omega) HMFG.out HOFG.out).mono ?_
  rintro e w6 ⟨v, rfl, ⟨Y3, y3, z3, rfl, hy3, hzz3, hl3, hr⟩, hb⟩
  have hbw6 := hbwp2.trans (hb.mono hbwp2.size)
  replace HR := Lib.hid ((HR.out.below hb).more hb.size)
  replace HG := Lib.hid ((HG.out.below hb).more hb.size)
  replace HC := Lib.hid ((HC.out.below hb).more hb.size)
  replace HY1 := Lib.hid ((HY1.out.below hb).more hb.size)
  replace HY2 := Lib.hid ((HY2.out.below hb).more hb.size)
  obtain rfl : y3 = 65 := by rw [← hl3, Rf.counts_len]
  have HY3 := Lib.hid hr
  clear hr hb hbwp2 hl3
  clear HRp
  go_wp2_with (at_builtin; refine wpList_append_rd _ rfl (.tmp 32) (.tmp 33) 22 rfl w6.heap.size 36 i0 (.agg #[.int .i64 0, .int .i64 0, .slice none 0 0, .bool false, .string (strOf [])]) 5 64 Try.underlying22 hi hz0 hz1 hz2 rfl (by decide) _ 0 [] rfl (World.ownsRow_made (e := 36) w6 #[] 0 (Nat.le_refl _) (by unfold maxLen; omega) rfl) w6.heap.size A2 n2 c2 (pcells sncells G S2) rfl (HG.out.2.2.1.alloc (Nat.le_refl _) _) (pcells_cell sn_one _ _) (by unfold maxLen; omega) (by omega) (by simp) ?_)
  intro vr1 wr1 hown hg
  have hbr1 : Below w6.heap.size w6 wr1 := ((Below.refl _ _).alloc (Nat.le_refl _) _).grown hg (by simp) (fun k hk => by simp [Value.ownBlock] at hk; omega)
  obtain ⟨Xr1, xr1, rfl, _, _⟩ := slice_of_own hown
  have HOr1 := Lib.hid hown
  clear hg hown
  go_wp2_with (at_builtin; refine wpList_append_rd _ rfl (.tmp 34) (.tmp 35) 22 rfl w6.heap.size 36 i0 (.agg #[.int .i64 0, .int .i64 0, .slice none 0 0, .bool false, .string (strOf [])]) 5 64 Try.underlying22 hi hz0 hz1 hz2 rfl (by decide) _ n2 (pcells sncells G S2) rfl HOr1.out w6.heap.size A1 n1 c1 (pcells sncells F S1) rfl ((HR.out.below hbr1).2.2.1) (pcells_cell sn_one _ _) (by unfold maxLen; omega) (by omega) hbr1.size ?_)
  intro vr2 wr2 hown hg
  have hbr2 : Below w6.heap.size w6 wr2 := hbr1.grown hg hbr1.size (fun k hk => (HOr1.out.lt k hk).1)
  have hN := snaps_of_own (l := G ++ F) (S := S2 ++ S1) (B := w6.heap.size) (by rw [pcells_app _ _ _ _ (by rw [HG.out.1, HG.out.2.1])]; exact hown) (by rw [List.length_append, HG.out.1, HR.out.1]) ((HG.out.inner.app HR.out.inner).below hbr2) hbr2.size
  obtain ⟨Xr2, Nr, xr2, Tr, rfl, hNr, hXr, hrr⟩ := hN
  have hN40r : Nr ≤ 40 := by have := hrr.1; rw [List.length_append, HG.out.1, HR.out.1] at this; omega
  have HRr := Lib.hid hrr
  have hbwr2 := hbw6.trans (hbr2.mono hbw6.size)
  clear hg hown hrr hbr1
  replace HR := Lib.hid ((HR.out.below hbr2).more hbr2.size)
  replace HG := Lib.hid ((HG.out.below hbr2).more hbr2.size)
  replace HC := Lib.hid ((HC.out.below hbr2).more hbr2.size)
  replace HY1 := Lib.hid ((HY1.out.below hbr2).more hbr2.size)
  replace HY2 := Lib.hid ((HY2.out.below hbr2).more hbr2.size)
  replace HY3 := Lib.hid ((HY3.out.below hbr2).more hbr2.size)
  clear hbr2 hbw6
  go_wp2_with fail
  refine (counts_r Xr2 Nr xr2 (G ++ F) Tr wr2 HRr.out hNr hXr (by omega) HMGF.out HOGF.out).mono ?_
  rintro e w7 ⟨v, rfl, ⟨Y4, y4, z4, rfl, hy4, hzz4, hl4, hr⟩, hb⟩
  have hbw7 := hbwr2.trans (hb.mono hbwr2.size)
  replace HR := Lib.hid ((HR.out.below hb).more hb.size)
  replace HG := Lib.hid ((HG.out.below hb).more hb.size)
  replace HC := Lib.hid ((HC.out.below hb).more hb.size)
  replace HY1 := Lib.hid ((HY1.out.below hb).more hb.size)
  replace HY2 := Lib.hid ((HY2.out.below hb).more hb.size)
  replace HY3 := Lib.hid ((HY3.out.below hb).more hb.size)
  obtain rfl : y4 = 65 := by rw [← hl4, Rf.counts_len]
  have HY4 := Lib.hid hr
  clear hr hb hbwr2 hl4
  clear HRr HG
  go_wp2
  go_loopw [12, 13] (fun x i wx => ∃ j : Nat, j ≤ 65 ∧ i = .int .i64 (j : Int) ∧ x = .int .i64 ((Rf.distinctN F (j - 1) : Nat) : Int) ∧ Below w7.heap.size w7 wx) (fun _ i _ => 65 - (intOf i).toNat)
  case atStart => exact ⟨0, by omega, rfl, rfl, Below.refl _ _⟩
  case round =>
    obtain ⟨j, hj, rfl, rfl, hb⟩ := hrel
    obtain ⟨wx, rfl⟩ : ∃ wx, wx = wr := ⟨_, rfl⟩
    by_cases hlt : j < 65
    · obtain ⟨a1, x1, rfl, ha1, hx1, g1⟩ := (HY1.out.below hb).int hlt
      obtain ⟨a2, x2, rfl, ha2, hx2, g2⟩ := (HY2.out.below hb).int hlt
      obtain ⟨a3, x3, rfl, ha3, hx3, g3⟩ := (HY3.out.below hb).int hlt
      obtain ⟨a4, x4, rfl, ha4, hx4, g4⟩ := (HY4.out.below hb).int hlt
      rw [Rf.counts_at _ hlt] at hx1 hx2 hx3 hx4
      obtain rfl := (Option.some.inj hx1).symm
      obtain rfl := (Option.some.inj hx2).symm
      obtain rfl := (Option.some.inj hx3).symm
      obtain rfl := (Option.some.inj hx4).symm
      clear hx1 hx2 hx3 hx4
      have hs1 := Rf.nn_succ F j
      have hs2 := Rf.nn_le F j
      have e3 := Rf.cc_app F G j
      have e4 := Rf.cc_app G F j
      have l1 := Nat.le_trans (Rf.cc_le F j) HMF.out
      have l2 := Nat.le_trans (Rf.cc_le G j) HMG.out
      obtain ⟨x1, h1⟩ : ∃ x, cc F j = x := ⟨_, rfl⟩
      obtain ⟨x2, h2⟩ : ∃ x, cc G j = x := ⟨_, rfl⟩
      obtain ⟨x3, h3⟩ : ∃ x, cc (F ++ G) j = x := ⟨_, rfl⟩
      obtain ⟨x4, h4⟩ : ∃ x, cc (G ++ F) j = x := ⟨_, rfl⟩
      obtain ⟨y, hy⟩ : ∃ y, Rf.distinctN F (j - 1) = y := ⟨_, rfl⟩
      rw [hy] at hs1 hs2 ⊢
      rw [h1] at g1 e3 e4 l1 hs1
      rw [h2] at g2 e3 e4 l2
      rw [h3] at g3 e3
      rw [h4] at g4 e4
      clear h1 h2 h3 h4 hy
      have HS1 := Lib.hid hs1
      have t72 : IntKind.i64.wrap ((x1 : Int) + (x2 : Int)) = (x3 : Int) := by rw [IntWalk.i64_in _ (by omega)]; omega
      obtain rfl : x3 = x4 := by omega
      clear e3 e4 hs1
      have hj65 : (j : Int) < 65 := by omega
      have g1' := fun k => (bel_drew' (Below.refl w7.heap.size wx) k).cell (p := a1.add j) (by rw [add_block]; exact ha1)
      go_upto_region 15 with fail
      go_cut [84] (fun b wy => b = .bool false ∧ Below w7.heap.size wx wy)
      case first =>
        go_quiet (fail)
        go_wp2
        go_meet
        case rel => exact ⟨rfl, bel_drew' (Below.refl _ _) _⟩
      case rest =>
        obtain ⟨rfl, hby⟩ := hcut
        have g1y := (hby.cell (p := a1.add j) (by rw [add_block]; exact ha1)).trans g1
        have hbc := hb.trans hby
        clear g1 g2 g3 g4 g1' hby t72
        by_cases hx : 0 < x1
        · have he := HS1.out
          rw [if_pos hx] at he
          have HE := Lib.hid he
          clear he
          go_wp2
          go_roundw
          case rel => exact ⟨j + 1, by omega, by go_num, by rw [HE.out]; go_num, hbc⟩
          case measure => simp [intOf]; omega
        · have he := HS1.out
          rw [if_neg hx] at he
          have HE := Lib.hid he
          clear he
          go_wp2
          go_roundw
          case rel => exact ⟨j + 1, by omega, by go_num, by rw [HE.out]; go_num, hbc⟩
          case measure => simp [intOf]; omega
    · obtain rfl : j = 65 := by omega
      have hd : Rf.distinctN F (65 - 1) = Rf.distinct F := rfl
      have hge := Rf.with_ge F C
      have hle := Rf.with_le F C
      have hdl := Rf.distinct_le F
      have hnil := Rf.with_nil F
      rw [HCL.out] at hle
      have HCW := Lib.hid (fun w h h' => with_r A1 A' n1 q c1 c' F S1 C w h hn1 hc1 (by omega) h' hqc.1 hmax' (by have := HMF.out; have := HCL.out; omega) HOF.out HOC.out)
      have HCD := Lib.hid (fun w h => distinct_r A1 n1 c1 F S1 w h hn1 hc1 (by omega) (Nat.le_trans HMF.out (by omega)) HOF.out)
      have HCN := Lib.hid (fun w h => with_r A1 none n1 0 c1 0 F S1 [] w h hn1 hc1 (by omega) (Rd.nil _ _ _ _) (Nat.le_refl _) (by omega) (by have := HMF.out; show Rf.many F + 0 ≤ _; omega) HOF.out (by simp))
      rw [hnil] at HCN
      rw [hd]
      obtain ⟨x, hx⟩ : ∃ x, Rf.distinct F = x := ⟨_, rfl⟩
      obtain ⟨y, hy⟩ : ∃ y, Rf.withC F C = y := ⟨_, rfl⟩
      rw [hx] at hge hle hdl HCD HCN ⊢
      rw [hy] at hge hle HCW
      replace HR := Lib.hid ((HR.out.below hb).more hb.size)
      replace HC := Lib.hid ((HC.out.below hb).more hb.size)
      have hbwx := hbw7.trans (hb.mono hbw7.size)
      clear hd hnil hx hy hb HY1 HY2 HY3 HY4
      go_wp2_with fail
      refine (HCW.out wx HR.out HC.out).mono ?_
      rintro e w8 ⟨rfl, hb⟩
      replace HR := Lib.hid ((HR.out.below hb).more hb.size)
      have hbw8 := hbwx.trans (hb.mono hbwx.size)
      clear hb
      go_wp2_with fail
      refine (HCD.out w8 HR.out).mono ?_
      rintro e w9 ⟨rfl, hb⟩
      replace HR := Lib.hid ((HR.out.below hb).more hb.size)
      have hbw9 := hbw8.trans (hb.mono hbw8.size)
      clear hb
      go_wp2_with fail
      refine (HCN.out w9 HR.out).mono ?_
      rintro e w10 ⟨rfl, hb⟩
      have hbw10 := hbw9.trans (hb.mono hbw9.size)
      clear hb
      go_wp2
      go_ret
      exact ⟨by simp, hbw10⟩
end Go.Proofs.Ytcbfcjpmoechlaa
