/-
  The walk of the landed forms' count: how often each number stands there, and whether all that is looked at is as it must be.
-/
import Derived.Test.YtkagonijkalicaaFoLook
import Derived.Test.YtkagonijkalicaaMgE
set_option linter.unusedVariables false
set_option linter.unusedSimpArgs false
namespace Go.Proofs.Ytkagonijkalicaa
open Go.RowKit
open Fo (Spc specAll specs inv top okField okSpec cntN lookS okAt AllAt Apart)
open Tl (Fel may fit)

def aggS (s : Spc) : Value := .agg #[.int .i64 s.num, .int .i64 s.wire, .int .i64 s.since, .bool s.need, .bool s.many]
def zspec : Value := .agg #[.int .i64 0, .int .i64 0, .int .i64 0, .bool false, .bool false]
theorem zero_spec (w : World) : (zeroValue 93).run Try.prog w = .ok zspec w := by kernel_rfl
theorem zero_int (w : World) : (zeroValue 3).run Try.prog w = .ok (.int .i64 0) w := by kernel_rfl
/-- The specs by their numbers. -/
def byNum (L : List Spc) (i : Int) : Option Value := (lookS L i).map aggS
/-- How often each number that has a spec stands there. -/
def times (L : List Spc) (l : List Fel) (i : Int) : Option Value := if (lookS L i).isSome = true ∧ 0 < cntN l i then some (.int .i64 (cntN l i : Nat)) else none
theorem byNum_snoc {L : List Spc} {j : Nat} {s : Spc} (h : L[j]? = some s) : upd (byNum (L.take j)) s.num (aggS s) = byNum (L.take (j + 1)) := by
  funext i
  unfold upd byNum
  rw [List.take_add_one, h]
  show _ = (lookS (L.take j ++ [s]) i).map aggS
  rw [Fo.lookS_snoc]
  by_cases hi : i = s.num
  · rw [if_pos hi, if_pos hi.symm]; rfl
  · rw [if_neg hi, if_neg (fun h => hi h.symm)]
theorem times_none {L : List Spc} {l : List Fel} {k : Nat} {f : Fel} (h : l[k]? = some f) (hs : lookS L f.num = none) : times L (l.take (k + 1)) = times L (l.take k) := by
  funext i
  unfold times
  rw [Fo.cntN_snoc h]
  by_cases hi : f.num = i
  · subst hi
    rw [hs]
    simp
  · rw [if_neg hi]; rfl
theorem times_some {L : List Spc} {l : List Fel} {k : Nat} {f : Fel} {s : Spc} (h : l[k]? = some f) (hs : lookS L f.num = some s) : upd (times L (l.take k)) f.num (.int .i64 (cntN (l.take (k + 1)) f.num : Nat)) = times L (l.take (k + 1)) := by
  funext i
  unfold upd times
  by_cases hi : i = f.num
  · subst hi
    rw [if_pos rfl, if_pos]
    rw [hs, Fo.cntN_snoc h, if_pos rfl]
    exact ⟨rfl, by omega⟩
  · rw [if_neg hi, Fo.cntN_snoc h, if_neg (show ¬ f.num = i from fun h => hi h.symm)]; rfl
theorem times_get {L : List Spc} {l : List Fel} {i : Int} (hs : (lookS L i).isSome = true) : ((times L l i).getD (.int .i64 0)) = .int .i64 (cntN l i : Nat) := by
  unfold times
  by_cases h : 0 < cntN l i
  · rw [if_pos ⟨hs, h⟩]; rfl
  · rw [if_neg (fun h' => h h'.2), show cntN l i = 0 by omega]; rfl
theorem times_nil (L : List Spc) : times L [] = fun _ => none := by
  funext i
  unfold times
  rw [if_neg]
  rintro ⟨_, h⟩
  simp [cntN] at h
theorem byNum_nil : byNum [] = fun _ => none := by
  funext i
  rfl

/-- What count hands back. -/
def Counted (w : World) (L : List Spc) (l : List Fel) (e : Ending) (w' : World) : Prop :=
  (∃ b n, e = .returned (.tuple #[.map (some b), .bool true]) ∧ w.heap.size ≤ b ∧ MapI Try.prog 3 w' b n (times L l) ∧ (∀ s ∈ L, okSpec s l = !(decide (cntN l s.num = 0) && s.need)) ∧ Below w.heap.size w w') ∨
  (e = .returned (.tuple #[.map none, .bool false]) ∧ (∃ s ∈ L, okSpec s l = false) ∧ Below w.heap.size w w')

theorem blk_grown {w w' : World} {g : Nat} {t : TypeId} {cs : Array Value} {row : Option Nat} (h : Blk w g t cs) (hg : w.grownBy w' row) (hne : some g ≠ row) : Blk w' g t cs := (hg.block g h.lt hne).trans h

set_option maxHeartbeats 8000000 in
set_option maxRecDepth 100000 in
theorem count_any (A1 : Option Addr) (m c1 : Nat) (L : List Spc) (A : Option Addr) (n c : Nat) (l : List Fel) (S : List (Option Addr × Nat)) (w : World) (hL : RdR scells 5 w w.heap.size A1 m L) (hm : m ≤ 10) (_hmc : m ≤ c1) (_hc1 : c1 ≤ 9223372036854775807)
    (hmem : ∀ s ∈ L, 1 ≤ s.num ∧ s.num ≤ 10 ∧ (s.wire = 0 ∨ s.wire = 2)) (hap : Apart L)
    (h : RdF w w.heap.size A n l S) (_hnc : n ≤ c) (_hmax : c ≤ 9223372036854775807) (hn : n ≤ 20000) (hw : ∀ f ∈ l, Fok f) (hfit : ∀ f ∈ l, fit f = true) :
    Calls Try.prog 75 #[.slice A1 m c1, .slice A n c] w (Counted w L l) := by
  have hmm := @run_makeMap Try.prog
  have HR := Lib.hid h
  have HN := Lib.hid h.1
  have HW := Lib.hid hw
  have HFIT := Lib.hid hfit
  have HL := Lib.hid hL
  have HM := Lib.hid hL.1
  have HME := Lib.hid hmem
  have HAP := Lib.hid hap
  obtain ⟨bm, hbm⟩ : ∃ bm, bm = w.heap.size := ⟨_, rfl⟩
  obtain ⟨w0, hw0⟩ : ∃ w0 : World, w0 = w.alloc (.map #[] 0) := ⟨_, rfl⟩
  have hb0 : Below w.heap.size w w0 := by rw [hw0]; exact (Below.refl _ _).alloc (Nat.le_refl _) _
  have HM0 := Lib.hid (show MapI Try.prog 3 w0 bm 0 (byNum []) by rw [hw0, hbm, byNum_nil]; exact MapI.made _ _ _)
  have HBM := Lib.hid hbm
  have HW0 := Lib.hid hw0
  clear h hw hfit hL hmem hap hw0 hbm
  go_enter Try.func75, Try.ntmps75
  go_upto_region 2 with fail
  rw [← HW0.out, ← HBM.out]
  go_wp2
  go_loopw [17] (fun i wr => ∃ j : Nat, j ≤ m ∧ i = .int .i64 (j : Int) ∧ MapI Try.prog 3 wr bm j (byNum (L.take j)) ∧ Below w.heap.size w wr) (fun i _ => m - (intOf i).toNat)
  case atStart => exact ⟨0, Nat.zero_le _, rfl, HM0.out, hb0⟩
  case round =>
    obtain ⟨j, hj, rfl, hmap, hb⟩ := hrel
    have HMP := Lib.hid hmap
    clear hmap
    have hsz := hb.size
    by_cases hlt : j < m
    · obtain ⟨ad, s, rfl, hab, hs, c0, c1', c2, c3, c4⟩ := spec_at (HL.out.below hb) hlt
      have hsm := HME.out s (List.mem_of_getElem? hs)
      have HSN := Lib.hid (byNum_snoc hs)
      clear hs
      go_wp2_with (at_mapUpdate; refine wpList_store_map _ rfl _ _ _ 116 rfl 3 93 Try.underlying3 Try.underlying116 bm j (byNum (L.take j)) (HMP.out.alloc _) (by unfold maxLen; omega) s.num (by omega) (by omega) (aggS s) rfl rfl rfl ?_; intro w2 hm2 hg2)
      have hb2 := (hb.alloc hsz _).grown hg2 (by simp; omega) (fun k hk => by injection hk with hk; exact Nat.le_of_eq (HBM.out.symm.trans hk))
      rw [HSN.out] at hm2
      go_roundw
      case rel => exact ⟨j + 1, by omega, by go_num, hm2, hb2⟩
      case measure => simp [intOf]; omega
    · obtain rfl : j = m := by omega
      have hmp := HMP.out
      rw [List.take_of_length_le (by have := HM.out; omega)] at hmp
      have HMP2 := Lib.hid hmp
      clear hmp HMP HM0
      have hbwr := hb
      obtain ⟨bt, hbt⟩ : ∃ bt, bt = wr.heap.size := ⟨_, rfl⟩
      obtain ⟨w3, hw3⟩ : ∃ w3 : World, w3 = wr.alloc (.map #[] 0) := ⟨_, rfl⟩
      have hb3 : Below w.heap.size w w3 := by rw [hw3]; exact hb.alloc hsz _
      have HT0 := Lib.hid (show MapI Try.prog 3 w3 bt 0 (times L []) by rw [hw3, hbt, times_nil]; exact MapI.made _ _ _)
      have HS0 := Lib.hid (show MapI Try.prog 3 w3 bm j (byNum L) by rw [hw3]; exact HMP2.out.alloc _)
      have hne : bm ≠ bt := by have := HMP2.out.lt; omega
      have hwbt : w.heap.size ≤ bt := by omega
      have HBT := Lib.hid hbt
      have HW3 := Lib.hid hw3
      clear hw3 hbt
      go_upto_region 8 with fail
      rw [← HW3.out, ← HBT.out]
      go_wp2
      go_loopw [4, 29] (fun tv i wx => ∃ kk : Nat, kk ≤ n ∧ i = .int .i64 (kk : Int) ∧ tv = .map (some bt) ∧ MapI Try.prog 3 wx bm j (byNum L) ∧ MapI Try.prog 3 wx bt kk (times L (l.take kk)) ∧ AllAt L l kk ∧ Below w.heap.size w wx) (fun _ i _ => n - (intOf i).toNat)
      case atStart => exact ⟨0, Nat.zero_le _, rfl, rfl, HS0.out, HT0.out, Fo.allAt_zero _ _, hb3⟩
      case round =>
        obtain ⟨kk, hkk, rfl, rfl, hms, hmt, hall, hbx⟩ := hrel
        have HMS := Lib.hid hms
        have HMT := Lib.hid hmt
        have HALL := Lib.hid hall
        have hszx := hbx.size
        have hmtlt := hmt.lt
        clear hms hmt hall
        by_cases hlt2 : kk < n
        · obtain ⟨af, f, sf, rfl, haf, hf, hsf, g0, g1, g2, g3, hrd, hs1', hs2'⟩ := (HR.out.below hbx).spell hlt2
          have hfok := HW.out f (List.mem_of_getElem? hf)
          have hffit := HFIT.out f (List.mem_of_getElem? hf)
          obtain ⟨hfwf, n0, n1, k0, k1, hb17⟩ := hfok
          have HF := Lib.hid hf
          have HFF := Lib.hid hffit
          obtain ⟨gf, hgf⟩ : ∃ gf, gf = wr.heap.size := ⟨_, rfl⟩
          obtain ⟨w4, hw4⟩ : ∃ w4 : World, w4 = wr.alloc (.cells #[.int .i64 f.num, .int .i64 f.wire, .int .u64 (f.n : Int), .slice sf.1 f.b.length sf.2] 55) := ⟨_, rfl⟩
          have hb4 : Below w.heap.size w w4 := by rw [hw4]; exact hbx.alloc hszx _
          have HK4 := Lib.hid (show Blk w4 gf 55 #[.int .i64 f.num, .int .i64 f.wire, .int .u64 (f.n : Int), .slice sf.1 f.b.length sf.2] by rw [hw4, hgf]; exact Blk.new _ _ _)
          have HMS4 := Lib.hid (show MapI Try.prog 3 w4 bm j (byNum L) by rw [hw4]; exact HMS.out.alloc _)
          have HMT4 := Lib.hid (show MapI Try.prog 3 w4 bt kk (times L (l.take kk)) by rw [hw4]; exact HMT.out.alloc _)
          have hwgf : w.heap.size ≤ gf := by omega
          have HGF := Lib.hid hgf
          have HW4 := Lib.hid hw4
          have hlk := HMS4.out.look_ok (T := 116) Try.underlying3 Try.underlying116 (zero_spec w4) n0 n1
          have y0 := HK4.out.cell 0
          simp at y0
          clear hf hffit hfwf hgf hw4 hsf hrd HMS HMT
          go_upto_region 11 with fail
          rw [← HW4.out, ← HGF.out]
          clear g0 g1 g2 g3
          cases hls : lookS L f.num with
          | none =>
            rw [show byNum L f.num = none by unfold byNum; rw [hls]; rfl] at hlk
            have HTN := Lib.hid (times_none HF.out hls)
            have HAN := Lib.hid (Fo.allAt_none HALL.out HF.out hls)
            unfold zspec at hlk
            simp only [Option.getD_none, Option.isSome_none] at hlk
            clear hls
            go_wp2
            go_roundw
            case rel => exact ⟨kk + 1, by omega, by go_num, rfl, HMS4.out.alloc _, by rw [HTN.out]; exact (HMT4.out.alloc _).mono (by omega), HAN.out, hb4.alloc hb4.size _⟩
            case measure => simp [intOf]; omega
          | some s =>
            rw [show byNum L f.num = some (aggS s) by unfold byNum; rw [hls]; rfl] at hlk
            simp only [Option.getD_some, Option.isSome_some] at hlk
            unfold aggS at hlk
            obtain ⟨C, hC⟩ : ∃ C, cntN (l.take kk) f.num = C := ⟨_, rfl⟩
            have hCk : C ≤ kk := by rw [← hC]; exact Nat.le_trans (Fo.cntN_le _ _) (by simp; omega)
            have hC1 : cntN (l.take (kk + 1)) f.num = C + 1 := by rw [Fo.cntN_snoc HF.out, if_pos rfl, hC]
            have hts := times_some HF.out hls
            rw [hC1, show ((C + 1 : Nat) : Int) = (C : Int) + 1 by simp] at hts
            have HTS := Lib.hid hts
            have hbad := Fo.okAt_bad HFF.out HF.out hls
            have hgood := fun h => Fo.allAt_some HALL.out HF.out hls h
            rw [hC1] at hbad hgood
            have HBAD := Lib.hid hbad
            have HGOOD := Lib.hid hgood
            have HLS := Lib.hid hls
            have hgC := times_get (l := l.take kk) (i := f.num) (show (lookS L f.num).isSome = true by rw [hls]; rfl)
            have hgC1 := times_get (l := l.take (kk + 1)) (i := f.num) (show (lookS L f.num).isSome = true by rw [hls]; rfl)
            rw [hC] at hgC
            rw [hC1, show ((C + 1 : Nat) : Int) = (C : Int) + 1 by simp] at hgC1
            have HGC := Lib.hid hgC
            have HGC1 := Lib.hid hgC1
            obtain ⟨gs, hgs⟩ : ∃ gs, gs = w4.heap.size := ⟨_, rfl⟩
            obtain ⟨w5, hw5⟩ : ∃ w5 : World, w5 = w4.alloc (.cells #[.int .i64 s.num, .int .i64 s.wire, .int .i64 s.since, .bool s.need, .bool s.many] 93) := ⟨_, rfl⟩
            have hb5 : Below w.heap.size w w5 := by rw [hw5]; exact hb4.alloc hb4.size _
            have HK5 := Lib.hid (show Blk w5 gf 55 #[.int .i64 f.num, .int .i64 f.wire, .int .u64 (f.n : Int), .slice sf.1 f.b.length sf.2] by rw [hw5]; exact HK4.out.alloc _)
            have HG5 := Lib.hid (show Blk w5 gs 93 #[.int .i64 s.num, .int .i64 s.wire, .int .i64 s.since, .bool s.need, .bool s.many] by rw [hw5, hgs]; exact Blk.new _ _ _)
            have HMS5 := Lib.hid (show MapI Try.prog 3 w5 bm j (byNum L) by rw [hw5]; exact HMS4.out.alloc _)
            have HMT5 := Lib.hid (show MapI Try.prog 3 w5 bt kk (times L (l.take kk)) by rw [hw5]; exact HMT4.out.alloc _)
            have hlt5 := HMT5.out.look (T := 104) Try.underlying3 Try.underlying104 (zero_int w5) n0 n1
            rw [HGC.out] at hlt5
            have hgfbt : gf ≠ bt := by rw [HGF.out]; omega
            have hgsbt : gs ≠ bt := by rw [hgs]; have := (HMT4.out).lt; omega
            have HGS := Lib.hid hgs
            have HW5 := Lib.hid hw5
            have y5 := HK5.out.cell 0
            simp at y5
            have hs5 := hb5.size
            clear hls hC hC1 hts hbad hgood hgC hgC1 hgs hw5 HMS4 HMT4
            go_upto_region 13 with fail
            rw [← HW5.out, ← HGS.out]
            clear y0 hlk
            go_upto_region 14 with (at_mapUpdate; refine wpList_store_map _ rfl _ _ _ 104 rfl 3 3 Try.underlying3 Try.underlying104 bt kk (times L (l.take kk)) HMT5.out (by unfold maxLen; omega) f.num n0 n1 (.int .i64 ((C : Int) + 1)) rfl rfl rfl ?_; intro w6 hm6 hg6)
            rw [HTS.out] at hm6
            have hb6 := hb5.grown hg6 hs5 (fun k hk => by injection hk with hk; omega)
            have HK6 := Lib.hid (blk_grown HK5.out hg6 (fun e => hgfbt (by injection e)))
            have HG6 := Lib.hid (blk_grown HG5.out hg6 (fun e => hgsbt (by injection e)))
            have HMS6 := Lib.hid (HMS5.out.kept hg6 (fun e => hne (by injection e)))
            have HMT6 := Lib.hid hm6
            have hlt6 := HMT6.out.look (T := 104) Try.underlying3 Try.underlying104 (zero_int w6) n0 n1
            rw [HGC1.out] at hlt6
            have x0 := HK6.out.cell 0
            have x1 := HK6.out.cell 1
            have x2 := HK6.out.cell 2
            have x3 := HK6.out.cell 3
            have z1 := HG6.out.cell 1
            have z4 := HG6.out.cell 4
            simp at x0 x1 x2 x3 z1 z4
            clear y5 hlt5 hm6 hg6 HK5 HG5 HMS5 HMT5
            obtain ⟨EM, hEM⟩ : ∃ EM, (decide (f.n = 0) && decide (f.b.length = 0)) = EM := ⟨_, rfl⟩
            have HEM := Lib.hid hEM
            clear hEM
            simp only [Act.put, List.setIfInBounds_toArray, List.set_cons_succ, List.set_cons_zero]
            go_cut [13] (fun b wx => b = .bool EM ∧ wx = w6)
            case first =>
              by_cases e1 : f.n = 0
              · have q1 : ((f.n : Int) == 0) = true := by rw [e1]; rfl
                by_cases e2 : f.b.length = 0
                · have q2 : ((f.b.length : Int) == 0) = true := by rw [e2]; rfl
                  obtain rfl : EM = true := by rw [← HEM.out, decide_eq_true e1, decide_eq_true e2]; rfl
                  clear e1 e2
                  go_wp2
                  go_meet
                  case rel => exact ⟨rfl, rfl⟩
                · have q2 : ((f.b.length : Int) == 0) = false := by rw [beq_eq_false_iff_ne]; omega
                  obtain rfl : EM = false := by rw [← HEM.out, decide_eq_true e1, decide_eq_false e2]; rfl
                  clear e1 e2
                  go_wp2
                  go_meet
                  case rel => exact ⟨rfl, rfl⟩
              · have q1 : ((f.n : Int) == 0) = false := by rw [beq_eq_false_iff_ne]; omega
                obtain rfl : EM = false := by rw [← HEM.out, decide_eq_false e1]; rfl
                clear e1
                go_wp2
                go_meet
                case rel => exact ⟨rfl, rfl⟩
            case rest =>
              obtain ⟨rfl, hwc⟩ := hcut
              have hwc := hwc.symm
              subst hwc
              obtain ⟨D, hD⟩ : ∃ D, okAt s f (C + 1) = D := ⟨_, rfl⟩
              have hDv : okAt s f (C + 1) = (!EM && decide (f.wire = s.wire) && !(decide (1 < C + 1) && !s.many)) := by rw [← HEM.out]; rfl
              rw [hD] at hDv
              have HD := Lib.hid hD
              have HDV := Lib.hid hDv
              clear hD hDv
              go_upto_region 15 with fail
              go_cut [75] (fun b wx => b = .bool (!D) ∧ wx = w6)
              case first =>
                cases EM with
                | true =>
                  obtain rfl : D = false := by rw [HDV.out]; rfl
                  go_wp2
                  go_meet
                  case rel => exact ⟨rfl, rfl⟩
                | false =>
                  by_cases e1 : f.wire = s.wire
                  · have q1 : (f.wire != s.wire) = false := by rw [e1]; simp
                    by_cases e2 : C = 0
                    · obtain rfl : D = true := by rw [HDV.out, decide_eq_true e1, e2]; rfl
                      clear e1
                      go_wp2
                      go_meet
                      case rel => exact ⟨rfl, rfl⟩
                    · obtain ⟨my, hmy⟩ : ∃ my, s.many = my := ⟨_, rfl⟩
                      rw [hmy] at z4
                      have hdv := HDV.out
                      rw [decide_eq_true e1, decide_eq_true (show 1 < C + 1 by omega), hmy] at hdv
                      clear hmy e1
                      cases my with
                      | true =>
                        obtain rfl : D = true := by rw [hdv]; rfl
                        clear hdv
                        go_wp2
                        go_meet
                        case rel => exact ⟨rfl, rfl⟩
                      | false =>
                        obtain rfl : D = false := by rw [hdv]; rfl
                        clear hdv
                        go_wp2
                        go_meet
                        case rel => exact ⟨rfl, rfl⟩
                  · have q1 : (f.wire != s.wire) = true := by rw [bne_iff_ne]; exact e1
                    obtain rfl : D = false := by rw [HDV.out, decide_eq_false e1]; rfl
                    clear e1
                    go_wp2
                    go_meet
                    case rel => exact ⟨rfl, rfl⟩
              case rest =>
                obtain ⟨rfl, hwc⟩ := hcut
                have hwc := hwc.symm
                subst hwc
                cases D with
                | false =>
                  have HEX := Lib.hid (HBAD.out HD.out)
                  go_wp2
                  go_ret2
                  exact .inr ⟨rfl, HEX.out, hb6⟩
                | true =>
                  have HAG := Lib.hid (HGOOD.out HD.out)
                  go_wp2
                  go_roundw
                  case rel => exact ⟨kk + 1, by omega, by go_num, rfl, HMS6.out, HMT6.out, HAG.out, hb6⟩
                  case measure => simp [intOf]; omega
        · obtain rfl : kk = n := by omega
          have htl : l.take kk = l := List.take_of_length_le (by have := HN.out; omega)
          have hmt := HMT.out
          have hal := HALL.out
          rw [htl] at hmt
          rw [show kk = l.length from HN.out.symm] at hal
          have HMTF := Lib.hid hmt
          have HOK := Lib.hid (Fo.allAt_ok HAP.out HFIT.out hal)
          clear htl hmt hal HMS HMT HALL
          go_wp2
          go_ret2
          exact .inl ⟨bt, kk, rfl, hwbt, HMTF.out, HOK.out, hbx⟩
end Go.Proofs.Ytkagonijkalicaa
