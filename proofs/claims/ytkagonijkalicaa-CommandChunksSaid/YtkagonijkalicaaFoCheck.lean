/-
  The walk of the reference of layer 4: Check.
-/
import Derived.Test.YtkagonijkalicaaMgJ
import Derived.Test.YtkagonijkalicaaMgF
set_option linter.unusedVariables false
set_option linter.unusedSimpArgs false
namespace Go.Proofs.Ytkagonijkalicaa
open Go.RowKit
open Fo (Spc specAll specs inv top okField okSpec cnt check)
open Tl (Fel may)

theorem drew_two (w : World) (a b : Nat) : (w.drewN a).drewN b = w.drewN (a + b) := by simp [World.drewN, Nat.add_assoc]
theorem cnt_snoc {s : Spc} {l : List Fel} {k : Nat} {f : Fel} (h : l[k]? = some f) : cnt s (l.take (k + 1)) = cnt s (l.take k) + if f.num = s.num then 1 else 0 := by
  unfold cnt
  rw [List.take_add_one, h, List.filter_append, List.length_append]
  by_cases hh : f.num = s.num <;> simp [hh, List.filter_cons]
theorem okf_snoc {s : Spc} {l : List Fel} {k : Nat} {f : Fel} (h : l[k]? = some f) : (l.take (k + 1)).all (okField s) = ((l.take k).all (okField s) && okField s f) := by
  rw [List.take_add_one, h, List.all_append]; simp
theorem okf_bad {s : Spc} {l : List Fel} {k : Nat} {f : Fel} (h : l[k]? = some f) (hb : okField s f = false) : okSpec s l = false := by
  unfold okSpec
  have : l.all (okField s) = false := by rw [List.all_eq_false]; exact ⟨f, List.mem_of_getElem? h, by rw [hb]; decide⟩
  rw [this]; rfl
theorem check_bad {k v : Int} {l : List Fel} {L : List Spc} (hs : specs k v = L) (hm : may l = 0) {s : Spc} {j : Nat} (hj : L[j]? = some s) (hb : okSpec s l = false) : check k v l = 6 := by
  unfold check
  have hne : L ≠ [] := fun h => by rw [h] at hj; simp at hj
  rw [hs, if_neg hne, hm]
  simp only [ne_eq, not_true, if_false]
  rw [if_neg]
  intro ha
  rw [List.all_eq_true] at ha
  have h1 : okSpec s l = true := ha s (List.mem_of_getElem? hj)
  rw [hb] at h1
  cases h1
theorem check_ok {k v : Int} {l : List Fel} {L : List Spc} (hs : specs k v = L) (hne : L ≠ []) (hm : may l = 0) (ha : ∀ s ∈ L, okSpec s l = true) : check k v l = 0 := by
  unfold check
  rw [hs, if_neg hne, hm]
  simp only [ne_eq, not_true, if_false]
  rw [if_pos (List.all_eq_true.2 ha)]

set_option maxHeartbeats 8000000 in
set_option maxRecDepth 100000 in
theorem rcheck_any (k v : Int) (A : Option Addr) (n c : Nat) (l : List Fel) (S : List (Option Addr × Nat)) (w : World) (k0 : -9223372036854775808 ≤ k) (k1 : k ≤ 9223372036854775807) (v0 : -9223372036854775808 ≤ v) (v1 : v ≤ 9223372036854775807)
    (h : RdF w w.heap.size A n l S) (hnc : n ≤ c) (hmax : c ≤ 9223372036854775807) (hn : n ≤ 20000) (hw : ∀ f ∈ l, Fok f) :
    Calls Try.prog 60 #[.int .i64 k, .int .i64 v, .slice A n c] w fun e w' => e = .returned (.int .i64 (check k v l : Nat)) ∧ Below w.heap.size w w' := by
  have hsp := rspecs_any k v w k0 k1 v0 v1
  have hslen := Fo.specs_len k v
  have hmem := fun s (hs : s ∈ specs k v) => Fo.specs_mem hs
  obtain ⟨L, hL⟩ : ∃ L, specs k v = L := ⟨_, rfl⟩
  rw [hL] at hsp hslen
  simp only [hL] at hmem
  have HSPC := Lib.hid hsp
  have HL := Lib.hid hL
  have HR := Lib.hid h
  have HN := Lib.hid h.1
  have HW := Lib.hid hw
  have HME := Lib.hid hmem
  obtain ⟨er, her⟩ : ∃ er, may l = er := ⟨_, rfl⟩
  have herr := Tl.may_err l
  rw [her] at herr
  have HER := Lib.hid her
  clear h hw hsp hL her hmem
  go_enter Try.func60, Try.ntmps60
  go_wp2_with fail
  refine HSPC.out.mono ?_
  rintro e w1 ⟨A1, m, c1, rfl, hmc, hcmax, hm, hown, hb1⟩
  have HS1 := Lib.hid (specs_get hown hm)
  have HM := Lib.hid hm
  have hs1 := hb1.size
  have hm10 : m ≤ 10 := by omega
  clear hown hm HSPC hslen
  by_cases hm0 : m = 0
  · subst hm0
    have hfin : check k v l = 1 := by
      unfold check
      rw [if_pos (by rw [HL.out]; exact List.eq_nil_of_length_eq_zero HM.out)]
    have HF := Lib.hid hfin
    clear hfin
    go_wp2
    go_ret
    exact ⟨by rw [HF.out]; rfl, hb1⟩
  · have qm : ((m : Int) == 0) = false := by rw [beq_eq_false_iff_ne]; omega
    have hne : L ≠ [] := fun h => by have := HM.out; rw [h] at this; simp at this; omega
    have HNE := Lib.hid hne
    clear hne
    go_wp2_with fail
    refine (rmay_any A n c l S w1 ((HR.out.below hb1).more hs1) hnc hmax hn HW.out).mono ?_
    rintro e w2 ⟨rfl, hb2⟩
    rw [HER.out]
    have hbw2 := hb1.trans (hb2.mono hs1)
    have HS2 := Lib.hid ((HS1.out.below hb2).more hb2.size)
    clear HS1 hb1 hb2 hs1
    by_cases he0 : er = 0
    · subst he0
      go_wp2
      go_loopw [9] (fun i wr => ∃ j : Nat, j ≤ m ∧ i = .int .i64 (j : Int) ∧ (∀ s ∈ L.take j, okSpec s l = true) ∧ Below w2.heap.size w2 wr) (fun i _ => m - (intOf i).toNat)
      case atStart => exact ⟨0, Nat.zero_le _, rfl, by simp, Below.refl _ _⟩
      case round =>
        obtain ⟨j, hj, rfl, hpre, hb⟩ := hrel
        have HP := Lib.hid hpre
        have hsz := hb.size
        have hbwr := hbw2.trans (hb.mono hbw2.size)
        clear hpre
        by_cases hlt : j < m
        · obtain ⟨ad, s, rfl, hab, hs, c0, c1', c2, c3, c4⟩ := spec_at (HS2.out.below hb) hlt
          obtain ⟨w5, hw5⟩ : ∃ w5 : World, w5 = wr.alloc (.cells #[.int .i64 s.num, .int .i64 s.wire, .int .i64 s.since, .bool s.need, .bool s.many] 93) := ⟨_, rfl⟩
          obtain ⟨gs, hgs⟩ : ∃ gs, gs = wr.heap.size := ⟨_, rfl⟩
          have hk5 : Blk w5 gs 93 #[.int .i64 s.num, .int .i64 s.wire, .int .i64 s.since, .bool s.need, .bool s.many] := by rw [hw5, hgs]; exact Blk.new _ _ _
          have hb5 : Below wr.heap.size wr w5 := by rw [hw5]; exact (Below.refl _ _).alloc (Nat.le_refl _) _
          have hb25 : Below w2.heap.size w2 w5 := hb.trans (hb5.mono hsz)
          have hbw5 := hbwr.trans (hb5.mono hbwr.size)
          have HSJ := Lib.hid hs
          have HW5 := Lib.hid hw5
          have HGS := Lib.hid hgs
          have x0 := hk5.cell 0
          have x1 := hk5.cell 1
          have x3 := hk5.cell 3
          have x4 := hk5.cell 4
          simp at x0 x1 x3 x4
          clear hs hw5 hgs hk5 hb5
          go_upto_region 11 with fail
          rw [← HW5.out, ← HGS.out]
          go_wp2
          go_loopw [11, 12] (fun q i wx => ∃ (kk mm dd : Nat), kk ≤ n ∧ mm ≤ kk ∧ i = .int .i64 (kk : Int) ∧ q = .int .i64 (mm : Int) ∧ cnt s (l.take kk) = mm ∧ (l.take kk).all (okField s) = true ∧ wx = w5.drewN dd) (fun _ i _ => n - (intOf i).toNat)
          case atStart => exact ⟨0, 0, 0, Nat.zero_le _, Nat.le_refl _, rfl, rfl, rfl, rfl, rfl⟩
          case round =>
            obtain ⟨kk, mm, dd, hkk, hmm, rfl, rfl, hcnt, hall, rfl⟩ := hrel
            have HCN := Lib.hid hcnt
            have HAL := Lib.hid hall
            clear hcnt hall
            by_cases hlt2 : kk < n
            · obtain ⟨af, f, sf, rfl, haf, hf, hsf, g0, g1, g2, g3, hrd, hs1', hs2'⟩ := (HR.out.below hbw5).spell hlt2
              have hcs := cnt_snoc (s := s) hf
              have hos := okf_snoc (s := s) hf
              rw [HCN.out] at hcs
              rw [HAL.out, Bool.true_and] at hos
              have HCS := Lib.hid hcs
              have HOS := Lib.hid hos
              have HFK := Lib.hid hf
              have hokf : okField s f = (decide (f.num ≠ s.num) || (decide (f.wire = s.wire) && !(decide (f.wire = 0) && decide (f.n = 0)) && !(decide (f.wire = 2) && decide (f.b.length = 0)))) := rfl
              have HOF := Lib.hid hokf
              clear hcs hos hf hsf hrd hokf
              by_cases hnum : f.num = s.num
              · have q1 : (f.num != s.num) = false := by rw [hnum]; simp
                have hcs2 : cnt s (l.take (kk + 1)) = mm + 1 := by rw [HCS.out, if_pos hnum]
                have HC2 := Lib.hid hcs2
                have hok2 : okField s f = (decide (f.wire = s.wire) && !(decide (f.wire = 0) && decide (f.n = 0)) && !(decide (f.wire = 2) && decide (f.b.length = 0))) := by rw [HOF.out, decide_eq_false (show ¬ f.num ≠ s.num from fun h => h hnum), Bool.false_or]
                obtain ⟨D, hD⟩ : ∃ D, okField s f = D := ⟨_, rfl⟩
                have HD := Lib.hid hD
                rw [hD] at hok2
                have HOK2 := Lib.hid hok2
                clear hcs2 hok2 hD HCS HOF hnum
                go_upto_region 15 with fail
                go_quiet (fail)
                rw [drew_two]
                go_upto_region 17 with fail
                go_cut [90] (fun b wx => b = .bool (!D) ∧ ∃ d2, wx = w5.drewN d2)
                case first =>
                  by_cases e1 : f.wire = s.wire
                  · have q2 : (f.wire != s.wire) = false := by rw [e1]; simp
                    by_cases e2 : f.wire = 0
                    · have q3 : (f.wire == 0) = true := by rw [e2]; rfl
                      have q4 : (f.wire == 2) = false := by rw [e2]; rfl
                      have e4 : ¬ f.wire = 2 := by omega
                      by_cases e3 : f.n = 0
                      · have q5 : ((f.n : Int) == 0) = true := by rw [e3]; rfl
                        obtain rfl : D = false := by rw [HOK2.out, decide_eq_true e1, decide_eq_true e2, decide_eq_true e3]; rfl
                        clear e1 e2 e3 e4
                        go_quiet (fail)
                        go_wp2
                        go_meet
                        case rel => exact ⟨rfl, _, drew_two _ _ _⟩
                      · have q5 : ((f.n : Int) == 0) = false := by rw [beq_eq_false_iff_ne]; omega
                        obtain rfl : D = true := by rw [HOK2.out, decide_eq_true e1, decide_eq_false e3, decide_eq_false e4, Bool.and_false]; rfl
                        clear e1 e2 e3 e4
                        go_quiet (fail)
                        go_wp2
                        go_meet
                        case rel => exact ⟨rfl, _, drew_two _ _ _⟩
                    · have q3 : (f.wire == 0) = false := by rw [beq_eq_false_iff_ne]; exact e2
                      by_cases e4 : f.wire = 2
                      · have q4 : (f.wire == 2) = true := by rw [e4]; rfl
                        by_cases e3 : f.b.length = 0
                        · have q5 : ((f.b.length : Int) == 0) = true := by rw [e3]; rfl
                          obtain rfl : D = false := by rw [HOK2.out, decide_eq_true e1, decide_eq_false e2, decide_eq_true e3, decide_eq_true e4]; rfl
                          clear e1 e2 e3 e4
                          go_quiet (fail)
                          go_wp2
                          go_meet
                          case rel => exact ⟨rfl, _, drew_two _ _ _⟩
                        · have q5 : ((f.b.length : Int) == 0) = false := by rw [beq_eq_false_iff_ne]; omega
                          obtain rfl : D = true := by rw [HOK2.out, decide_eq_true e1, decide_eq_false e2, decide_eq_false e3, decide_eq_true e4]; rfl
                          clear e1 e2 e3 e4
                          go_quiet (fail)
                          go_wp2
                          go_meet
                          case rel => exact ⟨rfl, _, drew_two _ _ _⟩
                      · have q4 : (f.wire == 2) = false := by rw [beq_eq_false_iff_ne]; exact e4
                        obtain rfl : D = true := by rw [HOK2.out, decide_eq_true e1, decide_eq_false e2, decide_eq_false e4]; rfl
                        clear e1 e2 e4
                        go_quiet (fail)
                        go_wp2
                        go_meet
                        case rel => exact ⟨rfl, _, drew_two _ _ _⟩
                  · have q2 : (f.wire != s.wire) = true := by rw [bne_iff_ne]; exact e1
                    obtain rfl : D = false := by rw [HOK2.out, decide_eq_false e1]; rfl
                    clear e1
                    go_quiet (fail)
                    go_wp2
                    go_meet
                    case rel => exact ⟨rfl, _, drew_two _ _ _⟩
                case rest =>
                  obtain ⟨rfl, d2, hwd⟩ := hcut
                  subst hwd
                  cases D with
                  | false =>
                    have hfin := check_bad HL.out HER.out HSJ.out (okf_bad HFK.out HD.out)
                    have HF := Lib.hid hfin
                    clear hfin
                    go_wp2
                    go_ret
                    exact ⟨by rw [HF.out]; rfl, bel_drew' hbw5 _⟩
                  | true =>
                    go_wp2
                    go_roundw
                    case rel => exact ⟨kk + 1, mm + 1, d2, by omega, by omega, by go_num, by go_num, HC2.out, by rw [HOS.out]; exact HD.out, rfl⟩
                    case measure => simp [intOf]; omega
              · have q1 : (f.num != s.num) = true := by rw [bne_iff_ne]; exact hnum
                have hcs2 : cnt s (l.take (kk + 1)) = mm := by rw [HCS.out, if_neg hnum]; rfl
                have hok2 : okField s f = true := by rw [HOF.out, decide_eq_true hnum, Bool.true_or]
                have HC2 := Lib.hid hcs2
                have HOK2 := Lib.hid hok2
                clear hcs2 hok2 HCS HOF hnum
                go_upto_region 15 with fail
                go_quiet (fail)
                rw [drew_two]
                go_wp2
                go_roundw
                case rel => exact ⟨kk + 1, mm, _, by omega, by omega, by go_num, rfl, HC2.out, by rw [HOS.out]; exact HOK2.out, rfl⟩
                case measure => simp [intOf]; omega
            · obtain rfl : kk = n := by omega
              have hl : l.take kk = l := List.take_of_length_le (by have := HN.out; omega)
              have hcn := HCN.out
              have hal := HAL.out
              rw [hl] at hcn hal
              have hoks : okSpec s l = (!(decide (1 < mm) && !s.many) && !(decide (mm = 0) && s.need)) := by
                unfold okSpec
                rw [hal, hcn, Bool.true_and]
              obtain ⟨D, hD⟩ : ∃ D, okSpec s l = D := ⟨_, rfl⟩
              have HD := Lib.hid hD
              rw [hD] at hoks
              have HOKS := Lib.hid hoks
              clear hl hcn hal hoks hD HCN HAL
              go_upto_region 19 with fail
              go_cut [105] (fun b wx => b = .bool (!D) ∧ wx = w5.drewN dd)
              case first =>
                have hmn : mm = 0 ∨ mm = 1 ∨ 1 < mm := by omega
                obtain ⟨nd, hnd⟩ : ∃ nd, s.need = nd := ⟨_, rfl⟩
                obtain ⟨my, hmy⟩ : ∃ my, s.many = my := ⟨_, rfl⟩
                rw [hnd] at x3
                rw [hmy] at x4
                have hoks := HOKS.out
                rw [hnd, hmy] at hoks
                have HOKT := Lib.hid hoks
                clear hoks hnd hmy
                rcases hmn with h0 | h0 | h0
                · have q1 : ((mm : Int) == 0) = true := by rw [h0]; rfl
                  cases nd with
                  | true =>
                    obtain rfl : D = false := by rw [HOKT.out, decide_eq_false (show ¬ 1 < mm by omega), decide_eq_true h0]; rfl
                    go_wp2
                    go_meet
                    case rel => exact ⟨rfl, rfl⟩
                  | false =>
                    obtain rfl : D = true := by rw [HOKT.out, decide_eq_false (show ¬ 1 < mm by omega), decide_eq_true h0]; rfl
                    go_wp2
                    go_meet
                    case rel => exact ⟨rfl, rfl⟩
                · have q1 : ((mm : Int) == 0) = false := by rw [beq_eq_false_iff_ne]; omega
                  obtain rfl : D = true := by rw [HOKT.out, decide_eq_false (show ¬ 1 < mm by omega), decide_eq_false (show ¬ mm = 0 by omega)]; rfl
                  have h1 : ¬ 1 < mm := by omega
                  clear h0
                  go_wp2
                  go_meet
                  case rel => exact ⟨rfl, rfl⟩
                · have q1 : ((mm : Int) == 0) = false := by rw [beq_eq_false_iff_ne]; omega
                  cases my with
                  | true =>
                    obtain rfl : D = true := by rw [HOKT.out, decide_eq_true h0, decide_eq_false (show ¬ mm = 0 by omega)]; rfl
                    go_wp2
                    go_meet
                    case rel => exact ⟨rfl, rfl⟩
                  | false =>
                    obtain rfl : D = false := by rw [HOKT.out, decide_eq_true h0]; rfl
                    go_wp2
                    go_meet
                    case rel => exact ⟨rfl, rfl⟩
              case rest =>
                obtain ⟨rfl, hwc⟩ := hcut
                subst hwc
                cases D with
                | false =>
                  have hfin := check_bad HL.out HER.out HSJ.out HD.out
                  have HF := Lib.hid hfin
                  clear hfin
                  go_wp2
                  go_ret
                  exact ⟨by rw [HF.out]; rfl, bel_drew' hbw5 _⟩
                | true =>
                  go_wp2
                  go_roundw
                  case rel =>
                    refine ⟨j + 1, by omega, by go_num, ?_, bel_drew' hb25 _⟩
                    intro t ht
                    rw [List.take_add_one, HSJ.out] at ht
                    rcases List.mem_append.1 ht with ht | ht
                    · exact HP.out t ht
                    · simp at ht
                      rw [ht]
                      exact HD.out
                  case measure => simp [intOf]; omega
        · obtain rfl : j = m := by omega
          have hfin := check_ok HL.out HNE.out HER.out (by
            have := HP.out
            rwa [List.take_of_length_le (by have := HM.out; omega)] at this)
          have HF := Lib.hid hfin
          clear hfin
          go_wp2
          go_ret
          exact ⟨by rw [HF.out]; rfl, hbwr⟩
    · have q : ((er : Int) != 0) = true := by rw [bne_iff_ne]; omega
      have hfin : check k v l = er := by
        unfold check
        rw [HL.out, if_neg HNE.out, HER.out, if_pos he0]
      have HF := Lib.hid hfin
      clear hfin
      go_wp2
      go_ret
      exact ⟨by rw [HF.out]; rfl, hbw2⟩
end Go.Proofs.Ytkagonijkalicaa
