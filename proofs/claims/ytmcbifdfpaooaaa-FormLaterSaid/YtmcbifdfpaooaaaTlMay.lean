/-
  The walk of the reference's May: whether a row of fields may be.
-/
import Derived.Test.YtmcbifdfpaooaaaTlOne

namespace Go.Proofs.Ytmcbifdfpaooaaa
open Go.RowKit
open Tl (Fel mayGo may flat fit falls)
open Tg (tput tput_byte tput_ok tput_no tput_len okTag okTag_iff rput_tag)
open Vi (put put_len put_byte rput_int)

/-- The field ahead of the j-th. -/
def ahead (l : List Fel) (j : Nat) : Option Fel := if j = 0 then none else l[j - 1]?
theorem flat_snoc {l : List Fel} {k : Nat} {f : Fel} (h : l[k]? = some f) : flat (l.take (k + 1)) = flat (l.take k) ++ Tl.one f := by
  rw [List.take_add_one, h, Tl.flat_app]
  simp [flat]
theorem mayGo_step {l : List Fel} {j : Nat} {f : Fel} (hf : l[j]? = some f) (p : Option Fel) :
    mayGo p (l.drop j) = if fit f = false then 1 else if p.any (falls · f) then 5 else if 16384 < f.b.length then 4 else mayGo (some f) (l.drop (j + 1)) := by
  have hlt := (List.getElem?_eq_some_iff.1 hf).1
  rw [List.drop_eq_getElem_cons hlt]
  have e : l[j] = f := by rw [List.getElem?_eq_getElem hlt] at hf; exact Option.some.inj hf
  rw [e, mayGo]
theorem tput_err (num wire : Int) : (tput num wire).2 = if okTag num wire then 0 else 1 := by
  cases h : okTag num wire with
  | false => rw [tput_no h]; rfl
  | true => rw [tput_ok h]; rfl

set_option maxHeartbeats 4000000 in
set_option maxRecDepth 100000 in
theorem rmay_any (A : Option Addr) (n c : Nat) (l : List Fel) (S : List (Option Addr × Nat)) (w : World) (h : RdF w w.heap.size A n l S) (hnc : n ≤ c) (hmax : c ≤ 9223372036854775807) (hn : n ≤ 20000) (hw : ∀ f ∈ l, Fok f) :
    Calls Try.prog 17 #[.slice A n c] w fun e w' => e = .returned (.int .i64 (may l : Nat)) ∧ Below w.heap.size w w' := by
  have HR := Lib.hid h
  have HN := Lib.hid h.1
  have HW := Lib.hid hw
  clear h hw
  go_enter Try.func17, Try.ntmps17
  go_wp2
  go_loopw [3] (fun i wr => ∃ j : Nat, j ≤ n ∧ i = .int .i64 (j : Int) ∧ mayGo none l = mayGo (ahead l j) (l.drop j) ∧ Below w.heap.size w wr) (fun i _ => n - (intOf i).toNat)
  case atStart => exact ⟨0, Nat.zero_le _, rfl, rfl, Below.refl _ _⟩
  case round =>
    obtain ⟨j, hj, rfl, hm, hb⟩ := hrel
    have HM := Lib.hid hm
    clear hm
    have hsz := hb.size
    by_cases hlt : j < n
    · obtain ⟨ad, f, s, rfl, hab, hf, hs, g0, g1, g2, g3, hrd, hs1, hs2⟩ := (HR.out.below hb).spell hlt
      obtain ⟨⟨hn64, hfb⟩, n0, n1, k0, k1, hb17⟩ := HW.out f (List.mem_of_getElem? hf)
      have hst := mayGo_step hf (ahead l j)
      have HST := Lib.hid hst
      have HF := Lib.hid hf
      clear hst hfb hf hs
      obtain ⟨w3, hw3⟩ : ∃ w3 : World, w3 = wr.alloc (.cells #[.int .i64 f.num, .int .i64 f.wire, .int .u64 (f.n : Int), .slice s.1 f.b.length s.2] 39) := ⟨_, rfl⟩
      have hk3 : Blk w3 wr.heap.size 39 #[.int .i64 f.num, .int .i64 f.wire, .int .u64 (f.n : Int), .slice s.1 f.b.length s.2] := by rw [hw3]; exact Blk.new _ _ _
      have hb3 : Below wr.heap.size wr w3 := by rw [hw3]; exact (Below.refl _ _).alloc (Nat.le_refl _) _
      have hs3 : wr.heap.size < w3.heap.size := by rw [hw3]; simp
      have HK3 := Lib.hid hk3
      have HW3 := Lib.hid hw3
      clear hw3 hk3
      go_wp2_with fail
      rw [← HW3.out]
      refine (rput_tag f.num f.wire w3 n0 n1 k0 k1).mono ?_
      rintro e w5 ⟨v5, rfl, hown5, hb5⟩
      obtain ⟨A5, c5, rfl, _, _⟩ := slice_of_own hown5
      have hk5 := HK3.out.below hb5 hs3
      have hlt5 := hk5.lt
      have hb35 := hb3.trans (hb5.mono hb3.size)
      have hbw5 := hb.trans (hb35.mono hsz)
      have HK5 := Lib.hid hk5
      rw [tput_err]
      clear hown5 hb5 HK3 HW3 hk5 hb3
      have z0 := HK5.out.cell 0
      have z1 := HK5.out.cell 1
      have z2 := HK5.out.cell 2
      have z3 := HK5.out.cell 3
      simp at z0 z1 z2 z3
      obtain ⟨G, hG⟩ : ∃ G, fit f = G := ⟨_, rfl⟩
      have HG := Lib.hid hG
      clear hG
      cases ho : okTag f.num f.wire with
      | false =>
        obtain rfl : G = false := by rw [← HG.out]; unfold fit; rw [ho]; rfl
        rw [if_neg (by decide)]
        clear ho
        go_wp2
        go_ret
        refine ⟨?_, hbw5⟩
        have e : mayGo none l = 1 := by rw [HM.out, HST.out, if_pos HG.out]
        unfold may
        rw [e]; rfl
      | true =>
        rw [if_pos rfl]
        go_upto_region 6 with fail
        go_cut [49] (fun b wx => b = .bool (!G) ∧ wx = w5)
        case first =>
          have hof := (okTag_iff.1 ho).2.2
          have hfit : fit f = (!(decide (f.wire = 0) && decide (0 < f.b.length)) && !(decide (f.wire = 2) && decide (f.n ≠ 0))) := by unfold fit; rw [ho]; rfl
          rcases hof with h0 | h0
          · have q1 : (f.wire == 0) = true := by rw [h0]; rfl
            have q2 : (f.wire == 2) = false := by rw [h0]; rfl
            by_cases hbl : 0 < f.b.length
            · obtain rfl : G = false := by rw [← HG.out, hfit, h0]; simp [hbl]
              clear h0 hfit ho
              go_wp2
              all_goals
                go_meet
                case rel => exact ⟨rfl, rfl⟩
            · obtain rfl : G = true := by rw [← HG.out, hfit, h0, decide_eq_false hbl]; rfl
              clear h0 hfit ho
              go_wp2
              all_goals
                go_meet
                case rel => exact ⟨rfl, rfl⟩
          · have q1 : (f.wire == 0) = false := by rw [h0]; rfl
            have q2 : (f.wire == 2) = true := by rw [h0]; rfl
            by_cases hbl : f.n = 0
            · obtain rfl : G = true := by rw [← HG.out, hfit, h0]; simp [hbl]
              have q3 : ((f.n : Int) != 0) = false := by rw [hbl]; rfl
              clear h0 hfit ho hbl
              go_wp2
              all_goals
                go_meet
                case rel => exact ⟨rfl, rfl⟩
            · obtain rfl : G = false := by rw [← HG.out, hfit, h0]; simp [hbl]
              have q3 : ((f.n : Int) != 0) = true := by rw [bne_iff_ne]; omega
              clear h0 hfit ho hbl
              go_wp2
              all_goals
                go_meet
                case rel => exact ⟨rfl, rfl⟩
        case rest =>
          obtain ⟨rfl, hwc⟩ := hcut
          have hwc := hwc.symm
          subst hwc
          cases G with
          | false =>
            go_wp2
            go_ret
            refine ⟨?_, hbw5⟩
            have e : mayGo none l = 1 := by rw [HM.out, HST.out, if_pos HG.out]
            unfold may
            rw [e]; rfl
          | true =>
            clear z0 z1 z2 g0 g1 g2 g3 hrd
            by_cases hj0 : 0 < j
            · obtain ⟨i, rfl⟩ : ∃ i, j = i + 1 := ⟨j - 1, by omega⟩
              obtain ⟨ad', p, sp, hA, hpb, hp, hsp, p0, p1, p2, p3, _, _, _⟩ := (HR.out.below hb).spell (show i < n by omega)
              cases hA
              have hpl : (ad.add (i * 4)).block < wr.heap.size := by rw [add_block]; omega
              have hpl0 : (ad.add (i * 4)).block < w5.heap.size := Nat.lt_of_lt_of_le hpl hb35.size
              replace p0 := (hb35.cell (p := ad.add (i * 4)) hpl).trans p0
              replace p1 := (hb35.cell (p := ⟨(ad.add (i * 4)).block, (ad.add (i * 4)).off + 1, none⟩) hpl).trans p1
              replace p2 := (hb35.cell (p := ⟨(ad.add (i * 4)).block, (ad.add (i * 4)).off + 2, none⟩) hpl).trans p2
              replace p3 := (hb35.cell (p := ⟨(ad.add (i * 4)).block, (ad.add (i * 4)).off + 3, none⟩) hpl).trans p3
              obtain ⟨D, hD⟩ : ∃ D, falls p f = D := ⟨_, rfl⟩
              have HFD := Lib.hid hD
              have HD := Lib.hid (show (ahead l (i + 1)).any (falls · f) = D by
                have e : ahead l (i + 1) = some p := hp
                rw [e]; exact hD)
              clear hD hp hsp
              go_upto_region 8 with fail
              go_cut [60] (fun b wx => b = .bool D ∧ Below w5.heap.size w5 wx)
              case first =>
                refine wp_region_grew (n := 81) (Say [(50, isv (.int .i64 ((i + 1 : Nat) : Int))), (51, isv (.bool true)), (52, isv (.bool true)), (53, isv (.slice (some ad) n c)), (54, isv (.int .i64 ((i + 1 : Nat) : Int))), (55, isv (.int .i64 (i : Int))), (56, isv (.pointer (some (ad.add (i * 4))))), (57, isv (aggOf p sp)), (58, isv (aggOf f s)), (59, isv (.bool D)), (60, isv (.bool D))]) (by kernel_rfl) (by kernel_rfl) rfl ⟨?_, ?_, ?_, ?_, ?_, ?_, ?_, ?_, ?_, ?_, ?_, trivial⟩ ?_
                · exact owed_move rfl rfl (.inl rfl) fun fr w _ hK => known_out hK 3 (by kernel_rfl)
                · refine owed_val _ rfl rfl (fun _ => rfl) fun fr w hC hK => ?_
                  have k50 : slot fr 50 = .int .i64 ((i + 1 : Nat) : Int) := known_in hK 50 (by kernel_rfl)
                  clear hK
                  unfold slot at k50
                  go_simp
                · exact owed_move rfl rfl (.inl rfl) fun fr w _ hK => known_in hK 51 (by kernel_rfl)
                · exact owed_movew rfl rfl rfl (by kernel_rfl) (fun _ _ h => h) (.inl rfl) fun fr w _ hK => known_out hK 0 (by kernel_rfl)
                · exact owed_movew rfl rfl rfl (by kernel_rfl) (fun _ _ h => h) (.inl rfl) fun fr w _ hK => known_out hK 3 (by kernel_rfl)
                · refine owed_wval _ rfl rfl rfl (by kernel_rfl) (fun _ _ h => h) (fun _ => rfl) fun fr w hC hK => ?_
                  have k54 : slot fr 54 = .int .i64 ((i + 1 : Nat) : Int) := known_in hK 54 (by kernel_rfl)
                  clear hK
                  unfold slot at k54
                  have f1 : IntKind.i64.wrap (i : Int) = (i : Int) := by rw [IntKind.wrap_i64]; omega
                  go_simp
                · refine owed_wval _ rfl rfl rfl (by kernel_rfl) (fun _ _ h => h) (fun _ => rfl) fun fr w hC hK => ?_
                  have k53 : slot fr 53 = .slice (some ad) n c := known_in hK 53 (by kernel_rfl)
                  have k55 : slot fr 55 = .int .i64 (i : Int) := known_in hK 55 (by kernel_rfl)
                  clear hK
                  unfold slot at k53 k55
                  have f1 : i < n := by omega
                  have f2 : ¬ n ≤ i := by omega
                  go_simp
                · refine owed_wval _ rfl rfl rfl (by kernel_rfl) (fun _ _ h => h) (fun _ => rfl) fun fr w hC hK => ?_
                  have k56 : slot fr 56 = .pointer (some (ad.add (i * 4))) := known_in hK 56 (by kernel_rfl)
                  clear hK
                  unfold slot at k56
                  unfold aggOf
                  have x0 := (Below.cell hC (p := ad.add (i * 4)) hpl0).trans p0
                  have x1 := (Below.cell hC (p := ⟨(ad.add (i * 4)).block, (ad.add (i * 4)).off + 1, none⟩) hpl0).trans p1
                  have x2 := (Below.cell hC (p := ⟨(ad.add (i * 4)).block, (ad.add (i * 4)).off + 2, none⟩) hpl0).trans p2
                  have x3 := (Below.cell hC (p := ⟨(ad.add (i * 4)).block, (ad.add (i * 4)).off + 3, none⟩) hpl0).trans p3
                  go_simp
                · refine owed_wval _ rfl rfl rfl (by kernel_rfl) (fun _ _ h => h) (fun _ => rfl) fun fr w hC hK => ?_
                  have k4 : slot fr 4 = .pointer (some ⟨wr.heap.size, 0, none⟩) := known_out hK 4 (by kernel_rfl)
                  clear hK
                  unfold slot at k4
                  unfold aggOf
                  have hk := Blk.below HK5.out hC hlt5
                  have x0 := hk.cell 0
                  have x1 := hk.cell 1
                  have x2 := hk.cell 2
                  have x3 := hk.cell 3
                  simp at x0 x1 x2 x3
                  go_simp
                · refine owed_wanted rfl rfl rfl (by kernel_rfl) (fun _ _ h => h) fun fr w hC hK K hk => ?_
                  have k57 : slot fr 57 = aggOf p sp := known_in hK 57 (by kernel_rfl)
                  have k58 : slot fr 58 = aggOf f s := known_in hK 58 (by kernel_rfl)
                  clear hK
                  unfold slot at k57 k58
                  go_simp
                  refine (falls_any p f sp s w).mono ?_
                  rintro e w' ⟨rfl, hb⟩
                  exact hk _ _ hb (congrArg Value.bool HFD.out)
                · refine owed_val _ rfl rfl (fun _ => rfl) fun fr w hC hK => ?_
                  have k52 : slot fr 52 = .bool true := known_in hK 52 (by kernel_rfl)
                  have k59 : slot fr 59 = .bool D := known_in hK 59 (by kernel_rfl)
                  clear hK
                  unfold slot at k52 k59
                  go_simp
                intro vs w' hg hgood
                have h6 : vs 60 = .bool D := hgood.2.2.2.2.2.2.2.2.2.2.1
                clear hgood
                simp only [putsOf]
                rw [h6]
                go_simp
                go_wp2
                go_meet
                case rel => exact ⟨rfl, hg⟩
              case rest =>
                obtain ⟨rfl, hb8⟩ := hcut
                have hbw8 := hbw5.trans (hb8.mono hbw5.size)
                have z3' := (hb8.cell (p := ⟨wr.heap.size, 3, none⟩) hlt5).trans z3
                clear z3 hb8
                cases D with
                | true =>
                  go_wp2
                  go_ret
                  refine ⟨?_, hbw8⟩
                  have e : mayGo none l = 5 := by rw [HM.out, HST.out, if_neg (by rw [HG.out]; decide), if_pos HD.out]
                  unfold may
                  rw [e]; rfl
                | false =>
                  by_cases hbig : 16384 < f.b.length
                  · go_wp2
                    go_ret
                    refine ⟨?_, hbw8⟩
                    have e : mayGo none l = 4 := by rw [HM.out, HST.out, if_neg (by rw [HG.out]; decide), if_neg (by rw [HD.out]; decide), if_pos hbig]
                    unfold may
                    rw [e]; rfl
                  · go_wp2
                    go_roundw
                    case rel =>
                      refine ⟨(i + 1) + 1, by omega, by go_num, ?_, hbw8⟩
                      rw [HM.out, HST.out, if_neg (by rw [HG.out]; decide), if_neg (by rw [HD.out]; decide), if_neg hbig]
                      have e : ahead l ((i + 1) + 1) = some f := HF.out
                      rw [e]
                    case measure => simp [intOf]; omega
            · have hD : (ahead l j).any (falls · f) = false := by unfold ahead; rw [if_pos (by omega)]; rfl
              have HD := Lib.hid hD
              obtain ⟨D, hDD⟩ : ∃ D, D = false := ⟨_, rfl⟩
              rw [← hDD] at HD
              clear hD
              go_upto_region 8 with fail
              go_cut [60] (fun b wx => b = .bool D ∧ Below w5.heap.size w5 wx)
              case first =>
                subst hDD
                go_quiet (fail)
                go_wp2
                go_meet
                case rel => exact ⟨rfl, bel_drewN (Below.refl _ _) _⟩
              case rest =>
                clear hDD
                obtain ⟨rfl, hb8⟩ := hcut
                have hbw8 := hbw5.trans (hb8.mono hbw5.size)
                have z3' := (hb8.cell (p := ⟨wr.heap.size, 3, none⟩) hlt5).trans z3
                clear z3 hb8
                cases D with
                | true =>
                  go_wp2
                  go_ret
                  refine ⟨?_, hbw8⟩
                  have e : mayGo none l = 5 := by rw [HM.out, HST.out, if_neg (by rw [HG.out]; decide), if_pos HD.out]
                  unfold may
                  rw [e]; rfl
                | false =>
                  by_cases hbig : 16384 < f.b.length
                  · go_wp2
                    go_ret
                    refine ⟨?_, hbw8⟩
                    have e : mayGo none l = 4 := by rw [HM.out, HST.out, if_neg (by rw [HG.out]; decide), if_neg (by rw [HD.out]; decide), if_pos hbig]
                    unfold may
                    rw [e]; rfl
                  · go_wp2
                    go_roundw
                    case rel =>
                      refine ⟨j + 1, by omega, by go_num, ?_, hbw8⟩
                      rw [HM.out, HST.out, if_neg (by rw [HG.out]; decide), if_neg (by rw [HD.out]; decide), if_neg hbig]
                      have e : ahead l (j + 1) = some f := HF.out
                      rw [e]
                    case measure => simp [intOf]; omega
    · obtain rfl : j = n := by omega
      have hm0 : mayGo none l = 0 := by
        rw [HM.out, List.drop_eq_nil_of_le (by have := HN.out; omega)]
        unfold mayGo
        rfl
      have HM0 := Lib.hid hm0
      clear hm0
      go_wp2
      go_loopw [7, 8] (fun x i w2 => ∃ k : Nat, k ≤ j ∧ i = .int .i64 (k : Int) ∧ x = .int .i64 (((flat (l.take k)).length : Nat) : Int) ∧ (flat (l.take k)).length ≤ 17012 * k ∧ Below w.heap.size w w2) (fun _ i _ => j - (intOf i).toNat)
      case atStart => exact ⟨0, Nat.zero_le _, rfl, rfl, by simp [flat], hb⟩
      case round =>
        obtain ⟨k, hk, rfl, rfl, hx, hb2⟩ := hrel
        obtain ⟨m, hm⟩ : ∃ m, (flat (l.take k)).length = m := ⟨_, rfl⟩
        rw [hm] at hx ⊢
        have HM2 := Lib.hid hm
        clear hm
        have hsz2 := hb2.size
        by_cases hlt2 : k < j
        · obtain ⟨ad, f, s, rfl, hab, hf, hs, g0, g1, g2, g3, hrd, hs1, hs2⟩ := (HR.out.below hb2).spell hlt2
          have hok := HW.out f (List.mem_of_getElem? hf)
          have hb17 := hok.2.2.2.2.2
          have hsm := one_small (f := f)
          have e : (flat (l.take (k + 1))).length = m + (Tl.one f).length := by
            rw [List.take_add_one, hf, Tl.flat_app, List.length_append, HM2.out]
            simp [flat]
          have HE := Lib.hid e
          have HOK := Lib.hid hok
          have hrd1 := hrd.more hsz2
          clear e hok hf hs hrd
          go_wp2_with fail
          refine (one_any f s wr HOK.out hrd1 hs1 hs2).mono ?_
          rintro e w3 ⟨v3, rfl, hown3, hb3⟩
          obtain ⟨A3, c3, rfl, _, _⟩ := slice_of_own hown3
          have hbw3 := hb2.trans (hb3.mono hsz2)
          clear hown3 hb3
          go_wp2
          go_roundw
          case rel =>
            refine ⟨k + 1, by omega, by go_num, ?_, by rw [HE.out]; omega, hbw3⟩
            rw [HE.out]; go_num
          case measure => simp [intOf]; omega
        · obtain rfl : k = j := by omega
          have hfl : (flat l).length = m := by
            have := HM2.out
            rwa [List.take_of_length_le (by have := HN.out; omega)] at this
          have HFL := Lib.hid hfl
          clear hfl
          by_cases hbig : 16384 < m
          · go_wp2
            go_ret
            refine ⟨?_, hb2⟩
            unfold may
            rw [HM0.out, HFL.out]
            simp only [ne_eq, not_true, if_false]
            rw [if_pos hbig]
            rfl
          · go_wp2
            go_ret
            refine ⟨?_, hb2⟩
            unfold may
            rw [HM0.out, HFL.out]
            simp only [ne_eq, not_true, if_false]
            rw [if_neg hbig]
            rfl
end Go.Proofs.Ytmcbifdfpaooaaa
