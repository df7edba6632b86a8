/-
  The walk of the law that a row of chunks is bytes of one each, and back.
-/
import Derived.Test.YtkagonijkalicaaMgQ
import Derived.Test.YtkagonijkalicaaCmFacts
set_option linter.unusedVariables false
set_option linter.unusedSimpArgs false
namespace Go.Proofs.Ytkagonijkalicaa
open Go.RowKit
open Cm (inR inR_iff aheadI bad rowGo rowGo_step row row_mem chunksB unchunk)

set_option maxHeartbeats 8000000 in
set_option maxRecDepth 100000 in
theorem cchunks_any (A : Option Addr) (n c : Nat) (l0 : List Int) (W : World) (h : Rd W W.heap.size 1 A n (ivs l0)) (hnc : n ≤ c) (hmax : c ≤ 9223372036854775807) (hi64 : ∀ x ∈ l0, I64 x) :
    Calls Try.prog 10 #[.slice A n c] W fun e w' => e = .returned (.bool true) ∧ Below W.heap.size W w' := by
  obtain ⟨L, hL⟩ : ∃ L, min n 12 = L := ⟨_, rfl⟩
  have hL2 : L ≤ n ∧ L ≤ 12 := by omega
  have hr := h.take hL2.1
  rw [Nat.mul_one] at hr
  have e0 : (ivs l0).take L = ivs (l0.take L) := by unfold ivs; rw [List.map_take]
  rw [e0] at hr
  have hi2 : ∀ x ∈ l0.take L, I64 x := fun x hx => hi64 x (List.mem_of_mem_take hx)
  obtain ⟨l, hl⟩ : ∃ l, l0.take L = l := ⟨_, rfl⟩
  rw [hl] at hr hi2
  have hlen : l.length = L := by have := hr.1; rw [ivs_len] at this; omega
  have HR := Lib.hid hr
  have HN := Lib.hid hlen
  have HI := Lib.hid hi2
  have HLL := Lib.hid hL
  have hLc : L ≤ c := by omega
  clear h hr e0 hi2 hl hlen hi64 hL
  go_enter Try.func10, Try.ntmps10
  go_wp2_with fail
  refine (cshown_any W).mono ?_
  rintro e w1 ⟨rfl, hb1⟩
  have hbw := hb1
  replace HR := Lib.hid ((HR.out.below hb1).more hb1.size)
  clear hb1
  go_upto_if 15 with fail
  go_cut [0] (fun b wx => b = .slice A L c ∧ wx = w1)
  case first =>
    by_cases h12 : 12 < n
    · obtain rfl : L = 12 := by have := HLL.out; omega
      have h3 : (12 : Int) ≤ (c : Int) := by omega
      go_wp2
      go_meet
      case rel => exact ⟨rfl, rfl⟩
    · obtain rfl : L = n := by have := HLL.out; omega
      go_wp2
      go_meet
      case rel => exact ⟨rfl, rfl⟩
  case rest =>
    obtain ⟨rfl, hwc⟩ := hcut
    have hwc := hwc.symm
    subst hwc
    obtain ⟨cb, ce, hcb⟩ : ∃ cb ce, chunksB l = (cb, ce) := ⟨_, _, rfl⟩
    obtain ⟨m, hm⟩ : ∃ m, cb.length = m := ⟨_, rfl⟩
    have HCB := Lib.hid hcb
    have HM := Lib.hid hm
    have hcall := chunks_c A L c l w1 HR.out hLc hmax (by omega) HI.out
    rw [hcb] at hcall
    simp only [hm] at hcall
    have HC := Lib.hid hcall
    clear hcb hm hcall
    go_wp2_with fail
    refine HC.out.mono ?_
    rintro e w2 ⟨v2, rfl, hown2, hb2⟩
    simp only [HM.out] at hown2
    obtain ⟨A2, c2, rfl, hc2, hc22⟩ := slice_of_own hown2
    have HX2 := Lib.hid (Rd.of_own hown2)
    replace HR := Lib.hid ((HR.out.below hb2).more hb2.size)
    replace hbw := hbw.trans (hb2.mono hbw.size)
    clear hown2 hb2 HC
    obtain ⟨g0, hg0⟩ : ∃ g, (decide (1 ≤ L) && decide (L ≤ 8)) = g := ⟨_, rfl⟩
    have HG0 := Lib.hid hg0
    clear hg0
    go_upto_region 5 with fail
    go_cut [6] (fun b wx => b = .bool g0 ∧ wx = w2)
    case first =>
      by_cases h1 : 1 ≤ L
      · by_cases h8 : L ≤ 8
        · obtain rfl : g0 = true := by rw [← HG0.out]; simp [h1, h8]
          go_wp2
          go_meet
          case rel => exact ⟨by first | rfl | (simp; omega), rfl⟩
        · obtain rfl : g0 = false := by rw [← HG0.out]; simp [h8]
          go_wp2
          go_meet
          case rel => exact ⟨by first | rfl | (simp; omega), rfl⟩
      · obtain rfl : g0 = false := by rw [← HG0.out]; simp [h1]
        go_wp2
        go_meet
        case rel => exact ⟨by first | rfl | (simp; omega), rfl⟩
    case rest =>
      obtain ⟨rfl, hwc⟩ := hcut
      have hwc := hwc.symm
      subst hwc
      go_wp2
      go_loopw [6, 7] (fun b i wr => ∃ (j : Nat) (g : Bool), j ≤ L ∧ i = .int .i64 (j : Int) ∧ b = .bool g ∧ (g && rowGo (aheadI l j) (l.drop j)) = row l ∧ Below w2.heap.size w2 wr) (fun _ i _ => L - (intOf i).toNat)
      case atStart =>
        refine ⟨0, g0, Nat.zero_le _, rfl, rfl, ?_, Below.refl _ _⟩
        unfold row
        rw [HN.out, HG0.out, Bool.and_comm]
        rfl
      case round =>
        obtain ⟨j, g, hj, rfl, rfl, hrow, hb⟩ := hrel
        have HROW := Lib.hid hrow
        have hsz := hb.size
        clear hrow
        by_cases hlt : j < L
        · obtain ⟨ad, x, rfl, hab, hx, r0⟩ := (HR.out.below hb).int hlt
          have hst := rowGo_step hx (aheadI l j)
          obtain ⟨D, hD⟩ : ∃ D, bad (aheadI l j) x = D := ⟨_, rfl⟩
          rw [hD] at hst
          have HST := Lib.hid hst
          have HD := Lib.hid hD
          have HX := Lib.hid hx
          obtain ⟨g', hg'⟩ : ∃ g', (g && !D) = g' := ⟨_, rfl⟩
          have HGG := Lib.hid hg'
          clear hst hD hx hg'
          have FIN : ∀ (w3 : World) (b : Value), b = .bool g' → Below wr.heap.size wr w3 → ∃ (j1 : Nat) (g1 : Bool), j1 ≤ L ∧ Value.int .i64 ((j : Int) + 1) = .int .i64 (j1 : Int) ∧ b = .bool g1 ∧ (g1 && rowGo (aheadI l j1) (l.drop j1)) = row l ∧ Below w2.heap.size w2 w3 := by
            intro w3 b hb3 hbb
            refine ⟨j + 1, g', by omega, by go_num, hb3, ?_, hb.trans (hbb.mono hsz)⟩
            have e : aheadI l (j + 1) = some x := HX.out
            rw [e, ← HROW.out, HST.out, ← HGG.out]
            cases g <;> cases D <;> rfl
          have HFIN := Lib.hid FIN
          clear FIN
          go_upto_region 9 with fail
          cases g with
          | false =>
            obtain rfl : g' = false := by rw [← HGG.out]; rfl
            go_quiet (fail)
            go_wp2
            go_roundw
            case rel => exact HFIN.out _ _ rfl (bel_drewN (Below.refl _ _) _)
            case measure => simp [intOf]; omega
          | true =>
            by_cases hx1 : 1 ≤ x
            · by_cases hx64 : x ≤ 64
              · have hin : inR x 1 64 = true := inR_iff.2 ⟨hx1, hx64⟩
                by_cases hj0 : j = 0
                · obtain rfl : g' = true := by rw [← HGG.out, ← HD.out]; unfold bad aheadI; rw [if_pos hj0, hin]; rfl
                  have q0 : ((j : Int) == 0) = true := by rw [hj0]; rfl
                  clear hj0
                  go_quiet (fail)
                  go_wp2
                  go_roundw
                  case rel => exact HFIN.out _ _ rfl (bel_drewN (Below.refl _ _) _)
                  case measure => simp [intOf]; omega
                · have q0 : ((j : Int) == 0) = false := by rw [beq_eq_false_iff_ne]; omega
                  obtain ⟨i, hji⟩ : ∃ i, i = j - 1 := ⟨j - 1, rfl⟩
                  have hin2 : i < L := by omega
                  obtain ⟨ad', y, hA, _, hy, r1⟩ := (HR.out.below hb).int hin2
                  cases hA
                  have f1 : IntKind.i64.wrap ((j : Int) - 1) = (i : Int) := by rw [IntKind.wrap_i64]; omega
                  have HA := Lib.hid (show aheadI l j = some y by unfold aheadI; rw [if_neg hj0, ← hji]; exact hy)
                  clear hji hy hj0
                  by_cases hxy : x ≤ y
                  · obtain rfl : g' = false := by rw [← HGG.out, ← HD.out]; unfold bad; rw [HA.out, hin]; simpa using hxy
                    go_quiet (fail)
                    go_wp2
                    go_roundw
                    case rel => exact HFIN.out _ _ (by first | rfl | (simp; omega)) (bel_drewN (Below.refl _ _) _)
                    case measure => simp [intOf]; omega
                  · obtain rfl : g' = true := by rw [← HGG.out, ← HD.out]; unfold bad; rw [HA.out, hin]; simpa using hxy
                    go_quiet (fail)
                    go_wp2
                    go_roundw
                    case rel => exact HFIN.out _ _ (by first | rfl | (simp; omega)) (bel_drewN (Below.refl _ _) _)
                    case measure => simp [intOf]; omega
              · obtain rfl : g' = false := by rw [← HGG.out, ← HD.out]; unfold bad; rw [show inR x 1 64 = false by simp [inR, hx64]]; rfl
                go_quiet (fail)
                go_wp2
                go_roundw
                case rel => exact HFIN.out _ _ (by first | rfl | (simp; omega)) (bel_drewN (Below.refl _ _) _)
                case measure => simp [intOf]; omega
            · obtain rfl : g' = false := by rw [← HGG.out, ← HD.out]; unfold bad; rw [show inR x 1 64 = false by simp [inR, hx1]]; rfl
              go_quiet (fail)
              go_wp2
              go_roundw
              case rel => exact HFIN.out _ _ (by first | rfl | (simp; omega)) (bel_drewN (Below.refl _ _) _)
              case measure => simp [intOf]; omega
        · obtain rfl : j = L := by omega
          have hg : g = row l := by rw [← HROW.out, List.drop_eq_nil_of_le (by have := HN.out; omega)]; simp [rowGo]
          have HG := Lib.hid hg
          replace HR := Lib.hid ((HR.out.below hb).more hb.size)
          replace HX2 := Lib.hid ((HX2.out.below hb).more hb.size)
          replace hbw := hbw.trans (hb.mono hbw.size)
          clear hg hb
          cases g with
          | false =>
            have hcc := HCB.out
            unfold chunksB at hcc
            rw [← HG.out, if_neg (by decide)] at hcc
            obtain rfl : ce = 1 := (congrArg Prod.snd hcc).symm
            have hce : cb = [] := (congrArg Prod.fst hcc).symm
            obtain rfl : m = 0 := by rw [← HM.out, hce]; rfl
            clear hcc hce
            go_wp2
            go_ret
            exact ⟨rfl, hbw⟩
          | true =>
            have hrow : row l = true := HG.out.symm
            have hcc := HCB.out
            rw [chunksB_row hrow] at hcc
            obtain rfl : ce = 0 := (congrArg Prod.snd hcc).symm
            have hcb : l.map Int.toNat = cb := congrArg Prod.fst hcc
            obtain ⟨hm1, hm2, hm3⟩ := row_mem hrow
            have hmj : m = j := by rw [← HM.out, ← hcb, List.length_map, HN.out]
            have HMJ := Lib.hid hmj
            have hbb : ∀ b ∈ cb, b < 256 := by
              rw [← hcb]
              intro b hb
              obtain ⟨x, hx, rfl⟩ := List.mem_map.1 hb
              have := hm1 x hx
              omega
            have HM1 := Lib.hid hm1
            have hun := unchunk_c A2 m c2 cb wr hbb HX2.out hc2 hc22 (by omega)
            rw [← hcb, row_unchunk hrow] at hun
            have HUN := Lib.hid hun
            have HBB := Lib.hid hbb
            have HCC := Lib.hid hcb
            clear hrow hcc hcb hm1 hm2 hm3 hbb hun
            subst hmj
            go_wp2_with fail
            refine HUN.out.mono ?_
            rintro e w4 ⟨v4, rfl, ⟨A4, n4, c4, rfl, hn4, hc4, hl4, hr4⟩, hb4⟩
            have HR4 := Lib.hid hr4
            replace HR := Lib.hid ((HR.out.below hb4).more hb4.size)
            replace HX2 := Lib.hid ((HX2.out.below hb4).more hb4.size)
            replace hbw := hbw.trans (hb4.mono hbw.size)
            clear hr4 hb4 hl4
            go_wp2_with fail
            refine (ints_any A4 A n4 m c4 c l l w4 HR4.out HR.out hn4 hc4 hLc hmax).mono ?_
            rintro e w5 ⟨rfl, hb5⟩
            first | rw [decide_eq_true (rfl : l = l)] | simp only [decide_true]
            replace HR := Lib.hid ((HR.out.below hb5).more hb5.size)
            replace HX2 := Lib.hid ((HX2.out.below hb5).more hb5.size)
            replace hbw := hbw.trans (hb5.mono hbw.size)
            clear hb5
            go_wp2
            go_loopw [11] (fun i wr => ∃ j : Nat, j ≤ m ∧ i = .int .i64 (j : Int) ∧ Below w5.heap.size w5 wr) (fun i _ => m - (intOf i).toNat)
            case atStart => exact ⟨0, Nat.zero_le _, rfl, Below.refl _ _⟩
            case round =>
              obtain ⟨k, hk, rfl, hb6⟩ := hrel
              by_cases hlt2 : k < m
              · obtain ⟨ad, x, rfl, _, hx, r0⟩ := (HR.out.below hb6).int hlt2
                obtain ⟨bd, b, rfl, hb256, _, hbk, r1⟩ := (HX2.out.below hb6).byte HBB.out hlt2
                obtain ⟨hx1, hx2⟩ := HM1.out x (List.mem_of_getElem? hx)
                obtain rfl : x = (b : Int) := by
                  have := HCC.out
                  rw [← this, List.getElem?_map, hx] at hbk
                  simp at hbk
                  omega
                clear hx hbk
                go_wp2_with (go_quiet (fail))
                go_roundw
                case rel => exact ⟨k + 1, by omega, by go_num, by first | exact bel_drewN hb6 _ | exact hb6⟩
                case measure => simp [intOf]; omega
              · obtain rfl : k = m := by omega
                go_wp2
                go_ret
                exact ⟨rfl, hbw.trans (hb6.mono hbw.size)⟩
end Go.Proofs.Ytkagonijkalicaa
