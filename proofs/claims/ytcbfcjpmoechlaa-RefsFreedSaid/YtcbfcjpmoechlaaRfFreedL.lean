/-
  The walk of the law RefsFreed.
-/
import Derived.Test.YtcbfcjpmoechlaaRfShown
import Derived.Test.YtcbfcjpmoechlaaRfFew
import Derived.Test.YtcbfcjpmoechlaaRfFacts
import Derived.BigQuiet
set_option linter.unusedVariables false
set_option linter.unusedSimpArgs false
namespace Go.Proofs.Ytcbfcjpmoechlaa
open Go.RowKit
open Rf (Snp)

/-- The chunk is one of those that the first snapshots of this number have. -/
def hadIn (l : List Snp) (id x : Int) : Bool := l.any fun a => a.id == id && a.chunks.any (· == x)

set_option maxHeartbeats 4000000 in
set_option maxRecDepth 100000 in
theorem rffreed_any (A : Option Addr) (n c : Nat) (l : List Snp) (S : List (Option Addr × Nat)) (id : Int) (w : World) (h : RdS w w.heap.size A n l S) (hnc : n ≤ c) (hmax : c ≤ 9223372036854775807) (hw : ∀ a ∈ l, Snok a) (hid : I64 id) :
    Calls Try.prog 4 #[.slice A n c, .int .i64 id] w fun e w' => e = .returned (.bool true) ∧ Below w.heap.size w w' := by
  obtain ⟨F, hF⟩ : ∃ F, fewS l = F := ⟨_, rfl⟩
  have HMF := Lib.hid (hF ▸ fewS_many l)
  have HOF := Lib.hid (hF ▸ fewS_ok hw)
  have hfl : F.length ≤ 20 := by rw [← hF, fewS_len]; omega
  have HR := Lib.hid h
  have HI := Lib.hid hid
  have HFF := Lib.hid hF
  clear h hw hid hF
  go_enter Try.func4, Try.ntmps4
  go_wp2_with fail
  refine (rfshown_any w).mono ?_
  rintro e w1 ⟨rfl, hb1⟩
  replace HR := Lib.hid ((HR.out.below hb1).more hb1.size)
  go_wp2_with fail
  refine (fews_any A n c l S w1 HR.out hnc hmax).mono ?_
  rintro e w2 ⟨v2, rfl, ⟨A1, n1, c1, S1, rfl, hn1, hc1, hr1⟩, hb2⟩
  have hbw2 := hb1.trans (hb2.mono hb1.size)
  rw [HFF.out] at hr1
  have hn20 : n1 ≤ 20 := by have := hr1.1; omega
  replace HR := Lib.hid hr1
  clear hr1 hb1 hb2 HFF
  go_wp2_with fail
  refine (without_r A1 n1 c1 F S1 id w2 HR.out hn1 hc1 (by omega) (Nat.le_trans HMF.out (by omega)) HOF.out HI.out).mono ?_
  rintro e w3 ⟨v3, rfl, ⟨A6, n6, c6, S6, rfl, hn6, hc6, hr6⟩, hb3⟩
  have hbw3 := hbw2.trans (hb3.mono hbw2.size)
  replace HR := Lib.hid ((HR.out.below hb3).more hb3.size)
  have H6 := Lib.hid hr6
  have hl6 := hr6.1
  have hn620 : n6 ≤ 20 := by have := Rf.without_len F id; omega
  have HL6 := Lib.hid hl6
  clear hr6 hb3 hbw2 hl6
  go_wp2_with fail
  refine (freed_r A1 n1 c1 F S1 id w3 HR.out hn1 hc1 (by omega) (Nat.le_trans HMF.out (by omega)) HOF.out HI.out).mono ?_
  rintro e w4 ⟨v4, rfl, ⟨A7, n7, c7, rfl, hn7, hc7, hl7, hr7⟩, hb4⟩
  have hbw4 := hbw3.trans (hb4.mono hbw3.size)
  replace HR := Lib.hid ((HR.out.below hb4).more hb4.size)
  replace H6 := Lib.hid ((H6.out.below hb4).more hb4.size)
  have H7 := Lib.hid hr7
  have HL7 := Lib.hid hl7
  clear hr7 hb4 hbw3 hl7
  have HOW := Lib.hid (show ∀ a ∈ Rf.without F id, Snok a from fun a ha => HOF.out a (List.mem_filter.1 ha).1)
  have HMW := Lib.hid (Nat.le_trans (Rf.many_without F id) HMF.out)
  go_wp2_with fail
  refine (counts_r A6 n6 c6 (Rf.without F id) S6 w4 H6.out hn6 hc6 (by omega) (Nat.le_trans HMW.out (by omega)) HOW.out).mono ?_
  rintro e w5 ⟨v5, rfl, ⟨A8, n8, c8, rfl, hn8, hc8, hl8, hr8⟩, hb5⟩
  have hbw5 := hbw4.trans (hb5.mono hbw4.size)
  replace HR := Lib.hid ((HR.out.below hb5).more hb5.size)
  replace H6 := Lib.hid ((H6.out.below hb5).more hb5.size)
  replace H7 := Lib.hid ((H7.out.below hb5).more hb5.size)
  have H8 := Lib.hid hr8
  obtain rfl : n8 = 65 := by rw [← hl8, Rf.counts_len]
  clear hr8 hb5 hbw4 hl8
  obtain ⟨T, hT⟩ : ∃ T, (F.any fun a => a.id == id) = T := ⟨_, rfl⟩
  have HT := Lib.hid hT
  clear hT
  go_wp2
  go_loop [9, 10] (fun t i => ∃ j : Nat, j ≤ n1 ∧ i = .int .i64 (j : Int) ∧ t = .bool ((F.take j).any fun a => a.id == id)) (fun _ i => n1 - (intOf i).toNat)
  case atStart => exact ⟨0, Nat.zero_le _, rfl, rfl⟩
  case round =>
    obtain ⟨j, hj, rfl, rfl⟩ := hrel
    by_cases hlt : j < n1
    · obtain ⟨ad, a, s, rfl, hab, ha, hs, g0, g1, g2, g3, g4, hrd, hs1, hs2⟩ := rds_get HR.out hlt
      have HAT := Lib.hid (Rf.any_take ha fun a => a.id == id)
      obtain ⟨t, ht⟩ : ∃ t, ((F.take j).any fun a => a.id == id) = t := ⟨_, rfl⟩
      rw [ht] at HAT ⊢
      obtain ⟨u, hu⟩ : ∃ u, (a.id == id) = u := ⟨_, rfl⟩
      rw [hu] at HAT
      clear ha hs g1 g2 g3 g4 hrd ht
      cases t with
      | true =>
        go_wp2
        go_round
        case rel => exact ⟨j + 1, by omega, by go_num, by rw [HAT.out]; rfl⟩
        case measure => simp [intOf]; omega
      | false =>
        go_wp2
        go_round
        case rel => exact ⟨j + 1, by omega, by go_num, by rw [HAT.out]; simp⟩
        case measure => simp [intOf]; omega
    · obtain rfl : n1 = j := by omega
      have hfull : F.take n1 = F := List.take_of_length_le (by have := HR.out.1; omega)
      have HD := Lib.hid (Rf.distinct_freed F id)
      have hdl := Rf.distinct_le F
      rw [HL7.out] at HD
      obtain ⟨d1, hd1⟩ : ∃ d, Rf.distinct (Rf.without F id) = d := ⟨_, rfl⟩
      obtain ⟨d2, hd2⟩ : ∃ d, Rf.distinct F = d := ⟨_, rfl⟩
      have HC1 := Lib.hid (fun w h hw => distinct_r A6 n6 c6 (Rf.without F id) S6 w h hn6 hc6 (by omega) (Nat.le_trans HMW.out (by omega)) hw)
      have HC2 := Lib.hid (fun w h hw => distinct_r A1 n1 c1 F S1 w h hn1 hc1 (by omega) (Nat.le_trans HMF.out (by omega)) hw)
      rw [hd1] at HD HC1
      rw [hd2] at HD HC2 hdl
      have hle : n7 ≤ d2 := by have := HD.out; omega
      have hcd : ((d1 : Int) != (d2 : Int) - (n7 : Int)) = false := by
        rw [bne_eq_false_iff_eq]
        have := HD.out
        omega
      rw [hfull, HT.out]
      have hT2 : T = false → n7 = 0 ∧ n6 = n1 := fun h => by
        have h1 := HT.out
        rw [h] at h1
        have h2 := HL7.out
        have h3 := HL6.out
        rw [Rf.freed_none h1] at h2
        rw [Rf.without_none h1, HR.out.1] at h3
        exact ⟨by simpa using h2.symm, h3.symm⟩
      have HT2 := Lib.hid hT2
      clear hT2 hfull hd1 hd2
      go_upto_region 11 with fail
      go_cut [70] (fun b wx => b = .bool false ∧ Below w5.heap.size w5 wx)
      case first =>
        go_wp2_with fail
        refine (HC1.out w5 H6.out HOW.out).mono ?_
        rintro e w6 ⟨rfl, hb6⟩
        go_wp2_with fail
        refine (HC2.out w6 ((HR.out.below hb6).more hb6.size) HOF.out).mono ?_
        rintro e w7 ⟨rfl, hb7⟩
        have hb67 := hb6.trans (hb7.mono hb6.size)
        clear hb6 hb7
        cases T with
        | true =>
          go_wp2
          go_meet
          case rel => exact ⟨rfl, hb67⟩
        | false =>
          obtain ⟨rfl, rfl⟩ := HT2.out rfl
          obtain rfl : d1 = d2 := HD.out
          clear hcd
          go_wp2
          go_meet
          case rel => exact ⟨rfl, hb67⟩
      case rest =>
        obtain ⟨rfl, hb6⟩ := hcut
        have hbw6 := hbw5.trans (hb6.mono hbw5.size)
        replace HR := Lib.hid ((HR.out.below hb6).more hb6.size)
        replace H7 := Lib.hid ((H7.out.below hb6).more hb6.size)
        replace H8 := Lib.hid ((H8.out.below hb6).more hb6.size)
        clear hb6 HC1 HC2 HD hcd hle hdl H6 HT2 hbw5
        obtain ⟨w6, rfl⟩ : ∃ w6, w6 = wc := ⟨_, rfl⟩
        go_wp2
        go_loopw [11] (fun i wr => ∃ k : Nat, k ≤ n7 ∧ i = .int .i64 (k : Int) ∧ Below w6.heap.size w6 wr) (fun i _ => n7 - (intOf i).toNat)
        case atStart => exact ⟨0, Nat.zero_le _, rfl, Below.refl _ _⟩
        case round =>
          obtain ⟨k, hk, rfl, hb⟩ := hrel
          obtain ⟨w7, rfl⟩ : ∃ w7, w7 = wr := ⟨_, rfl⟩
          by_cases hkl : k < n7
          · obtain ⟨ax, x, rfl, hax, hx, gx⟩ := ((H7.out.below hb).more hb.size).int hkl
            have hmem := List.mem_of_getElem? hx
            obtain ⟨i, hi64, hxi, hc0, hc1'⟩ := Rf.freed_mem hmem
            obtain ⟨ac, y, rfl, hac, hy, gy⟩ := ((H8.out.below hb).more hb.size).int (show i + 1 < 65 by omega)
            have hy0 : y = 0 := by
              rw [Rf.counts_get _ (by omega) (by omega)] at hy
              have := Option.some.inj hy
              rw [show ((i + 1 : Nat) : Int) = x by omega, hc1'] at this
              exact this.symm
            have HH := Lib.hid (show hadIn F id x = true from Rf.freed_had hmem)
            have HX := Lib.hid hx
            subst hy0
            have hxi' : x = ((i + 1 : Nat) : Int) := by omega
            subst hxi'
            clear hmem hx hc0 hc1' hxi hy
            obtain ⟨x, hxx⟩ : ∃ x : Nat, x = i + 1 := ⟨_, rfl⟩
            have hx1 : 1 ≤ x ∧ x ≤ 64 := by omega
            rw [← hxx] at HH HX gx gy
            clear hxx
            have hsz := hb.size
            go_wp2
            go_loopw [12, 13] (fun t i wi => ∃ j : Nat, j ≤ n1 ∧ i = .int .i64 (j : Int) ∧ t = .bool (hadIn (F.take j) id x) ∧ Below w7.heap.size w7 wi) (fun _ i _ => n1 - (intOf i).toNat)
            case atStart => exact ⟨0, Nat.zero_le _, rfl, rfl, Below.refl _ _⟩
            case round =>
              obtain ⟨j, hj, rfl, rfl, hbi⟩ := hrel
              obtain ⟨wi, rfl⟩ : ∃ wi, wi = wr := ⟨_, rfl⟩
              have hbw := hb.trans (hbi.mono hsz)
              by_cases hlt : j < n1
              · obtain ⟨ad, a, ⟨s1, s2⟩, rfl, hab, ha, hs, g0, g1, g2, g3, g4, hrd, hs1, hs2⟩ := rds_get (HR.out.below hbw) hlt
                simp only at g2 hs1 hs2 hrd
                have HAT := Lib.hid (show hadIn (F.take (j + 1)) id x = (hadIn (F.take j) id x || (a.id == id && a.chunks.any (· == (x : Int)))) from Rf.any_take ha _)
                obtain ⟨t, ht⟩ : ∃ t, hadIn (F.take j) id x = t := ⟨_, rfl⟩
                rw [ht] at HAT ⊢
                have HRD := Lib.hid hrd
                have HB := Lib.hid hbw
                clear ha hs g1 g3 g4 ht hrd
                have g0' := fun (wx : World) (hbx : Below wi.heap.size wi wx) => (hbx.cell (p := ad.add (j * 5)) (by rw [add_block]; have := hbw.size; omega)).trans g0
                have g2' := fun (wx : World) (hbx : Below wi.heap.size wi wx) => (hbx.cell (p := ⟨(ad.add (j * 5)).block, (ad.add (j * 5)).off + 2, none⟩) (by show (ad.add (j * 5)).block < _; rw [add_block]; have := hbw.size; omega)).trans g2
                have HG0 := Lib.hid g0'
                have HG2 := Lib.hid g2'
                clear g0' g2' g0 g2
                by_cases haid : a.id = id
                · have hq : (a.id == id) = true := by rw [haid]; simp
                  rw [hq, Bool.true_and] at HAT
                  go_wp2
                  go_loopw [12, 14] (fun t' i wx => ∃ m : Nat, m ≤ a.chunks.length ∧ i = .int .i64 (m : Int) ∧ t' = .bool (t || (a.chunks.take m).any (· == (x : Int))) ∧ Below wi.heap.size wi wx) (fun _ i _ => a.chunks.length - (intOf i).toNat)
                  case atStart => exact ⟨0, Nat.zero_le _, rfl, by simp, Below.refl _ _⟩
                  case round =>
                    obtain ⟨m, hm, rfl, rfl, hbx⟩ := hrel
                    obtain ⟨wx, rfl⟩ : ∃ wx, wx = wr := ⟨_, rfl⟩
                    have g0 := HG0.out wx hbx
                    have g2 := HG2.out wx hbx
                    clear HG0 HG2
                    have hbwx := hbw.trans (hbx.mono hbw.size)
                    by_cases hml : m < a.chunks.length
                    · obtain ⟨ae, y, rfl, hae, hy, ge⟩ := (HRD.out.below ((hbx.mono hbw.size))).int hml
                      have HAY := Lib.hid (Rf.any_take hy (· == (x : Int)))
                      obtain ⟨t2, ht2⟩ : ∃ t2, (a.chunks.take m).any (· == (x : Int)) = t2 := ⟨_, rfl⟩
                      rw [ht2] at HAY ⊢
                      obtain ⟨u, hu⟩ : ∃ u, (y == (x : Int)) = u := ⟨_, rfl⟩
                      rw [hu] at HAY
                      have gx' := (hbx.cell (p := ax.add k) (by rw [add_block]; have := hbi.size; omega)).trans ((hbi.cell (p := ax.add k) (by rw [add_block]; exact hax)).trans gx)
                      clear hy ht2 gy gx
                      cases ht : (t || t2) with
                      | true =>
                        go_upto_region 23 with fail
                        go_quiet (fail)
                        go_wp2
                        go_roundw
                        case rel => exact ⟨m + 1, by omega, by go_num, by rw [HAY.out, ← Bool.or_assoc, ht]; simp, bel_drew' hbx _⟩
                        case measure => simp [intOf]; omega
                      | false =>
                        go_upto_region 23 with fail
                        go_quiet (fail)
                        go_wp2
                        go_roundw
                        case rel => exact ⟨m + 1, by omega, by go_num, by rw [HAY.out, ← Bool.or_assoc, ht]; simp, bel_drew' hbx _⟩
                        case measure => simp [intOf]; omega
                    · obtain rfl : a.chunks.length = m := by omega
                      rw [List.take_length]
                      go_wp2
                      go_roundw
                      case rel => exact ⟨j + 1, by omega, by go_num, by rw [HAT.out], hbi.trans (hbx.mono hbi.size)⟩
                      case measure => simp [intOf]; omega
                · have hq : (a.id == id) = false := by rw [beq_eq_false_iff_ne]; exact haid
                  rw [hq, Bool.false_and, Bool.or_false] at HAT
                  have g0 := HG0.out wi (Below.refl _ _)
                  have g2 := HG2.out wi (Below.refl _ _)
                  clear HG0 HG2
                  go_wp2
                  go_loop [12, 14] (fun t' i => i = .int .i64 0 ∧ t' = .bool t) (fun _ _ => 0)
                  case atStart => exact ⟨rfl, rfl⟩
                  case round =>
                    obtain ⟨rfl, rfl⟩ := hrel
                    by_cases hml : 0 < a.chunks.length
                    · go_wp2
                      go_roundw
                      case rel => exact ⟨j + 1, by omega, by go_num, by rw [HAT.out], hbi⟩
                      case measure => simp [intOf]; omega
                    · go_wp2
                      go_roundw
                      case rel => exact ⟨j + 1, by omega, by go_num, by rw [HAT.out], hbi⟩
                      case measure => simp [intOf]; omega
              · obtain rfl : n1 = j := by omega
                have hfull : F.take n1 = F := List.take_of_length_le (by have := HR.out.1; omega)
                rw [hfull, HH.out]
                clear hfull
                have gx' := (hbi.cell (p := ax.add k) (by rw [add_block]; exact hax)).trans gx
                have gy' := (hbi.cell (p := ac.add x) (by rw [add_block]; exact hac)).trans gy
                clear gx gy
                have h64 : ¬ (64 : Int) < (x : Int) := by omega
                have h1x : ¬ (x : Int) < 1 := by omega
                have hsz2 := hbw.size
                have hx65 : (x : Int) < 65 := by omega
                have hx0 : (0 : Int) ≤ (x : Int) := by omega
                by_cases hk0 : k = 0
                · subst hk0
                  rw [ad_zero] at gx'
                  rw [show ((0 : Nat) : Int) = 0 from rfl]
                  go_upto_region 24 with fail
                  go_quiet (fail)
                  go_wp2
                  go_roundw
                  case rel => exact ⟨1, by omega, by go_num, bel_drew' hbw _⟩
                  case measure => simp [intOf]; omega
                · obtain ⟨p, hp⟩ : ∃ p, p + 1 = k := ⟨k - 1, by omega⟩
                  obtain ⟨az, z, hz0, haz, hz, gz⟩ := ((H7.out.below hbw).more hbw.size).int (show p < n7 by omega)
                  obtain rfl := Option.some.inj hz0
                  have hzx := Rf.freed_step hz (by rw [hp]; exact HX.out)
                  have hle2 : decide ((x : Int) ≤ z) = false := by rw [decide_eq_false_iff_not]; omega
                  have hk1 : 0 < k := by omega
                  have hk2 : decide (0 < k) = true := decide_eq_true hk1
                  have hk3 : decide ((0 : Int) < (k : Int)) = true := by rw [decide_eq_true_iff]; omega
                  have t154 : IntKind.i64.wrap ((k : Int) - 1) = (p : Int) := by rw [IntWalk.i64_in _ (by omega)]; omega
                  have hpn : (p : Int) < (n7 : Int) := by omega
                  clear hz hzx hz0 hp
                  go_upto_region 24 with fail
                  go_quiet (fail)
                  go_wp2
                  go_roundw
                  case rel => exact ⟨k + 1, by omega, by go_num, bel_drew' hbw _⟩
                  case measure => simp [intOf]; omega
          · obtain rfl : k = n7 := by omega
            go_wp2
            go_ret
            exact ⟨rfl, hbw6.trans (hb.mono hbw6.size)⟩
end Go.Proofs.Ytcbfcjpmoechlaa
