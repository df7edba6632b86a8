/-
  The walk of the law RefsGone.
-/
import Derived.Test.YtcbfcjpmoechlaaRfShown
import Derived.Test.YtcbfcjpmoechlaaRfFew
import Derived.Test.YtcbfcjpmoechlaaRfGoneP
import Derived.BigQuiet
set_option linter.unusedVariables false
set_option linter.unusedSimpArgs false
namespace Go.Proofs.Ytcbfcjpmoechlaa
open Go.RowKit
open Rf (Snp cnt)

theorem bool_info : (Try.prog.info? 4).map (fun i => (i.zero, i.size, i.bytes)) = some (some (.bool false), 1, 1) := by kernel_rfl

set_option maxHeartbeats 4000000 in
set_option maxRecDepth 100000 in
theorem rfgone_any (A : Option Addr) (n c : Nat) (l : List Snp) (S : List (Option Addr × Nat)) (w : World) (h : RdS w w.heap.size A n l S) (hnc : n ≤ c) (hmax : c ≤ 9223372036854775807) (hw : ∀ a ∈ l, Snok a) :
    Calls Try.prog 7 #[.slice A n c] w fun e w' => e = .returned (.bool true) ∧ Below w.heap.size w w' := by
  obtain ⟨i0, hi, hz0, hz1, hz2⟩ := info_parts bool_info
  obtain ⟨F, hF⟩ : ∃ F, fewS l = F := ⟨_, rfl⟩
  have HMF := Lib.hid (hF ▸ fewS_many l)
  have HOF := Lib.hid (hF ▸ fewS_ok hw)
  have HSF := Lib.hid (hF ▸ fewS_short (l := l))
  have hfl : F.length ≤ 20 := by rw [← hF, fewS_len]; omega
  have HR := Lib.hid h
  have HFF := Lib.hid hF
  clear h hw hF
  go_enter Try.func7, Try.ntmps7
  go_wp2_with fail
  refine (rfshown_any w).mono ?_
  rintro e w1 ⟨rfl, hb1⟩
  replace HR := Lib.hid ((HR.out.below hb1).more hb1.size)
  go_wp2_with fail
  refine (fews_any A n c l S w1 HR.out hnc hmax).mono ?_
  rintro e w2 ⟨v2, rfl, ⟨A1, n1, c1, S1, rfl, hn1, hc1, hr1⟩, hb2⟩
  have hbw2 := hb1.trans (hb2.mono hb1.size)
  rw [HFF.out] at hr1
  have hn20 : n1 ≤ 20 := by have := hr1.1; omega
  replace HR := Lib.hid hr1
  clear hr1 hb1 hb2 HFF
  go_wp2_with fail
  refine (distinct_r A1 n1 c1 F S1 w2 HR.out hn1 hc1 (by omega) (Nat.le_trans HMF.out (by omega)) HOF.out).mono ?_
  rintro e w3 ⟨rfl, hb3⟩
  have hbw3 := hbw2.trans (hb3.mono hbw2.size)
  replace HR := Lib.hid ((HR.out.below hb3).more hb3.size)
  have hdl := Rf.distinct_le F
  obtain ⟨D, hD⟩ : ∃ D, Rf.distinct F = D := ⟨_, rfl⟩
  rw [hD] at hdl ⊢
  have HD := Lib.hid hD
  clear hD hb3 hbw2
  go_wp2_with (at_make; refine wpList_make_full _ rfl _ _ 40 rfl w3.heap.size 4 i0 (.bool false) 1 Try.underlying40 hi hz0 hz1 _ _ _ _ 65 rfl rfl rfl rfl (by rw [hz2]; omega) (by unfold maxLen; omega) (Nat.le_refl _) ?_)
  intro w4 hown4 hg4
  obtain ⟨g, hg⟩ : ∃ g, w3.heap.size = g := ⟨_, rfl⟩
  have hblk4 := blk_of_own hown4
  have hfl4 : (madeCells #[Value.bool false] 65).toList = (List.replicate 65 false).map Value.bool := by
    rw [toList_madeCells_one]
    simp
  rw [hfl4] at hblk4
  have hb4 : Below w3.heap.size w3 w4 := (Below.refl _ _).grown hg4 (Nat.le_refl _) (fun k hk => by cases hk)
  rw [hg] at hblk4 hb4 ⊢
  have hg4' : g < w4.heap.size := hblk4.lt
  have HB4 := Lib.hid (show Blk w4 g 4 (fl (List.replicate 65 false)) from hblk4)
  have HR3 := Lib.hid (show RdS w3 g A1 n1 F S1 from hg ▸ HR.out)
  have HR4 := Lib.hid ((HR3.out.below hb4).more (Nat.le_of_lt hg4'))
  have hbg3 : Below w.heap.size w w3 := hbw3
  have hg3 : w.heap.size ≤ g := by rw [← hg]; exact hbw3.size
  clear hown4 hg4 hblk4 hfl4 hbw3 hg HR
  go_wp2
  go_loopw [6, 7, 8] (fun m r i wr => ∃ (j M : Nat) (R : List Snp) (A8 : Option Addr) (n8 c8 : Nat) (S8 : List (Option Addr × Nat)) (B : List Bool), j ≤ n1 ∧ i = .int .i64 (j : Int) ∧ m = .int .i64 (M : Int) ∧ M + Rf.distinct R = D ∧ r = .slice A8 n8 c8 ∧ n8 ≤ c8 ∧ c8 ≤ 9223372036854775807 ∧ RdS wr wr.heap.size A8 n8 R S8 ∧
    Blk wr g 4 (fl B) ∧ B.length = 65 ∧ (∀ c : Nat, B[c]? = some true → cnt R c = 0) ∧ Left F j R ∧ n8 ≤ 20 ∧ Rf.many R ≤ 240 ∧ Below g w3 wr) (fun _ _ i _ => n1 - (intOf i).toNat)
  case atStart =>
    refine ⟨0, 0, F, A1, n1, c1, S1, List.replicate 65 false, Nat.zero_le _, rfl, rfl, by have := HD.out; omega, rfl, hn1, hc1, HR4.out, HB4.out, by simp, ?_, fun a ha => ⟨ha, fun j b hj => by omega⟩, hn20, HMF.out, hb4⟩
    intro c hc
    rw [List.getElem?_replicate] at hc
    split at hc
    · cases hc
    · cases hc
  case round =>
    obtain ⟨j, M, R, A8, n8, c8, S8, B, hj, rfl, rfl, hMD, rfl, hn8, hc8, hr8, hblk, hBl, hBc, hleft, hn820, hmR, hb⟩ := hrel
    obtain ⟨wx, rfl⟩ : ∃ wx, wx = wr := ⟨_, rfl⟩
    have H8 := Lib.hid hr8
    have HB := Lib.hid hblk
    have HBL := Lib.hid hBl
    have HBC := Lib.hid hBc
    have HLF := Lib.hid hleft
    have HMR := Lib.hid hmR
    have HMD := Lib.hid hMD
    have hgx : g < wx.heap.size := hblk.lt
    clear hr8 hblk hBl hBc hleft hmR
    have HOR := Lib.hid (show ∀ a ∈ R, Snok a from fun a ha => HOF.out a (HLF.out a ha).1)
    by_cases hlt : j < n1
    · obtain ⟨ad, a, s, rfl, hab, ha, hs, g0, g1, g2, g3, g4, hrd, hs1, hs2⟩ := rds_get (HR3.out.below hb) hlt
      have HIA := Lib.hid (HOF.out a (List.mem_of_getElem? ha)).1
      have HA := Lib.hid ha
      clear ha hs g1 g2 g3 g4 hrd hs1 hs2
      go_wp2_with fail
      refine (freed_r A8 n8 c8 R S8 a.id wx H8.out hn8 hc8 (by omega) (Nat.le_trans HMR.out (by omega)) HOR.out HIA.out).mono ?_
      rintro e w5 ⟨v5, rfl, ⟨A9, n9, c9, rfl, hn9, hc9, hl9, hr9⟩, hb5⟩
      have hbx5 : Below g wx w5 := hb5.mono (Nat.le_of_lt hgx)
      have hb35 := hb.trans hbx5
      have hbl5 := HB.out.below hb5 hgx
      have hr85 := (H8.out.below hb5).more hb5.size
      have hg5 : g < w5.heap.size := hbl5.lt
      have H85 := Lib.hid hr85
      have HB5 := Lib.hid hbl5
      have H9 := Lib.hid hr9
      have HL9 := Lib.hid hl9
      have hdf := Rf.distinct_freed R a.id
      rw [hl9] at hdf
      have HDF := Lib.hid hdf
      have hM9 : M + n9 ≤ 64 := by have := HMD.out; omega
      clear hb5 hbx5 hbl5 hr85 hr9 hl9 hdf g0 H8 HB hMD
      go_wp2
      go_loopw [6, 10] (fun m i wr => ∃ (k : Nat) (B : List Bool), k ≤ n9 ∧ i = .int .i64 (k : Int) ∧ m = .int .i64 ((M + k : Nat) : Int) ∧ RdS wr w5.heap.size A8 n8 R S8 ∧ Rd wr w5.heap.size 1 A9 n9 (ivs (Rf.freed R a.id)) ∧ w5.heap.size ≤ wr.heap.size ∧
        Blk wr g 4 (fl B) ∧ B.length = 65 ∧ (∀ c : Nat, B[c]? = some true → cnt R c = 0 ∨ (c : Int) ∈ (Rf.freed R a.id).take k) ∧ Below g w3 wr) (fun _ i _ => n9 - (intOf i).toNat)
      case atStart => exact ⟨0, B, Nat.zero_le _, rfl, by simp, H85.out, H9.out, Nat.le_refl _, HB5.out, HBL.out, fun c hc => .inl (HBC.out c hc), hb35⟩
      case round =>
        obtain ⟨k, B2, hk, rfl, rfl, hr8, hr9, hsz, hblk, hBl, hBc, hbi⟩ := hrel
        obtain ⟨wi, rfl⟩ : ∃ wi, wi = wr := ⟨_, rfl⟩
        have HR8 := Lib.hid hr8
        have HR9 := Lib.hid hr9
        have HBi := Lib.hid hblk
        have HBLi := Lib.hid hBl
        have HBCi := Lib.hid hBc
        clear hr8 hr9 hblk hBl hBc
        by_cases hkl : k < n9
        · obtain ⟨ax, x, hA9, hax, hx, gx⟩ := HR9.out.int hkl
          subst hA9
          obtain ⟨p, hp64, hxp, _, _⟩ := Rf.freed_mem (List.mem_of_getElem? hx)
          obtain ⟨x, rfl⟩ : ∃ y : Nat, x = (y : Int) := ⟨p + 1, by omega⟩
          have hx1 : 1 ≤ x ∧ x ≤ 64 := by omega
          have hoff := flag_off hx HBCi.out HBLi.out hx1.2
          have hcell : wi.cell? ⟨g, x, none⟩ = some (.bool false) := by
            rw [HBi.out.cell]
            unfold fl
            rw [List.getElem?_toArray, List.getElem?_map, hoff]; rfl
          have hfz := HBi.out.frozen x
          have hput := HBi.out.put x (.bool true)
          rw [fl_set] at hput
          have hgr := fl_grown wi g x (.bool true)
          have HN8 := Lib.hid (rds_far HR8.out HBi.out hsz hgr)
          have HN9 := Lib.hid (rdn_far HR9.out HBi.out hsz hgr)
          have HNB := Lib.hid hput
          have HNC := Lib.hid (flag_put hx HBCi.out)
          have HNG := Lib.hid (hbi.grown hgr (by omega) (fun k hk => by cases hk; exact Nat.le_refl _))
          have hszw : (wi.setCell ⟨g, x, none⟩ (.bool true)).heap.size = wi.heap.size := by simp [World.setCell]
          have HNS := Lib.hid (show w5.heap.size ≤ (wi.setCell ⟨g, x, none⟩ (.bool true)).heap.size by rw [hszw]; exact hsz)
          have HLN := Lib.hid (show (B2.set x true).length = 65 by rw [List.length_set]; exact HBLi.out)
          have hx65 : (x : Int) < 65 := by omega
          have h1x : ¬ (x : Int) < 1 := by omega
          have h64x : ¬ (64 : Int) < (x : Int) := by omega
          have hadd : (⟨g, 0, none⟩ : Addr).add x = ⟨g, x, none⟩ := by unfold Addr.add; rw [if_neg (by omega)]; simp
          clear hx hxp hoff hput hgr hszw hp64
          go_wp2
          go_roundw
          case rel => exact ⟨k + 1, B2.set x true, by omega, by go_num, by go_num, HN8.out, HN9.out, HNS.out, HNB.out, HLN.out, HNC.out, HNG.out⟩
          case measure => simp [intOf]; omega
        · obtain rfl : n9 = k := by omega
          have hfull : (Rf.freed R a.id).take n9 = Rf.freed R a.id := List.take_of_length_le (by have := HL9.out; omega)
          have HBC2 := Lib.hid (show ∀ c : Nat, B2[c]? = some true → cnt (Rf.without R a.id) c = 0 from flag_done (by have := HBCi.out; rw [hfull] at this; exact this))
          obtain ⟨ad2, a2, s2, hA2, hab2, ha2, hs2, g0, g1, g2, g3, g4, hrd, hs3, hs4⟩ := rds_get (HR3.out.below hbi) hlt
          obtain rfl := Option.some.inj hA2
          have hae := HA.out.symm.trans ha2
          obtain rfl := Option.some.inj hae
          have hszi : w5.heap.size ≤ wi.heap.size := hsz
          clear hfull hA2 ha2 hs2 g1 g2 g3 g4 hrd hs3 hs4 hae
          go_wp2_with fail
          refine (without_r A8 n8 c8 R S8 a.id wi (HR8.out.more hsz) hn8 hc8 (by omega) (Nat.le_trans HMR.out (by omega)) HOR.out HIA.out).mono ?_
          rintro e w6 ⟨v6, rfl, ⟨A10, n10, c10, S10, rfl, hn10, hc10, hr10⟩, hb6⟩
          have hgi : g < wi.heap.size := by omega
          have HB6 := Lib.hid (HBi.out.below hb6 hgi)
          have HR10 := Lib.hid hr10
          have HB36 := Lib.hid (hbi.trans (hb6.mono (Nat.le_of_lt hgi)))
          have hn10' : n10 ≤ 20 := by have h1 := hr10.1; have h2 := Rf.without_len R a.id; have h3 := HR8.out.1; omega
          have HM2 := Lib.hid (show Rf.many (Rf.without R a.id) ≤ 240 from Nat.le_trans (Rf.many_without R a.id) HMR.out)
          have HL2 := Lib.hid (HLF.out.step HA.out)
          have HD2 := Lib.hid (show (M + n9) + Rf.distinct (Rf.without R a.id) = D by have := HMD.out; have := HDF.out; omega)
          clear hr10 hb6
          go_wp2
          go_roundw
          case rel => exact ⟨j + 1, M + n9, Rf.without R a.id, A10, n10, c10, S10, B2, by omega, by go_num, by go_num, HD2.out, rfl, hn10, hc10, HR10.out, HB6.out, HBLi.out, HBC2.out, HL2.out, hn10', HM2.out, HB36.out⟩
          case measure => simp [intOf]; omega
    · obtain rfl : n1 = j := by omega
      have hRnil : R = [] := Left.none (by have h1 := HLF.out; rw [← HR3.out.1] at h1; exact h1)
      subst hRnil
      obtain rfl : n8 = 0 := H8.out.1.symm
      have hd0 : Rf.distinct [] = 0 := by decide +kernel
      have hMD2 : M = D := by have := HMD.out; omega
      subst hMD2
      have HCD := Lib.hid (distinct_r A8 0 c8 [] S8 wx H8.out hn8 hc8 (by omega) (by have := HMR.out; omega) HOR.out)
      rw [hd0, show ((0 : Nat) : Int) = 0 from rfl] at HCD
      have hbwx := hbg3.trans (hb.mono hg3)
      clear hd0 hMD HMD
      go_wp2_with fail
      refine HCD.out.mono ?_
      rintro e w7 ⟨rfl, hb7⟩
      have hbw7 := hbwx.trans (hb7.mono hbwx.size)
      clear hb7
      go_wp2
      go_ret
      exact ⟨rfl, hbw7⟩
end Go.Proofs.Ytcbfcjpmoechlaa
