/-
  The walk of the reference of layer 5: Take.
-/
import Derived.Test.YtkagonijkalicaaCmTakeP
import Derived.Test.YtkagonijkalicaaMgG
import Derived.Test.YtkagonijkalicaaFoCheck
set_option linter.unusedVariables false
set_option linter.unusedSimpArgs false
namespace Go.Proofs.Ytkagonijkalicaa
open Go.RowKit
open Cm (Cmd inR inR_iff row row_mem putC cutN stepC cmdOf known restOf takeC unchunk noCmd)
open Tl (Fel fit takeRow)
open Fo (top check)

/-- What comes back: a command, the rest, an error. -/
def NewCmd (w : World) (r : Cmd × List Fel × Nat) (e : Ending) (w' : World) : Prop :=
  ∃ (s : Option Addr × Nat) (u : Value), e = .returned (.tuple #[cagg r.1 s, u, .int .i64 (r.2.2 : Nat)]) ∧ RdC w' w'.heap.size r.1 s ∧ NewRow w' r.2.1 u ∧ Below w.heap.size w w'
theorem newrow_nil (w : World) : NewRow w [] (.slice none 0 0) := ⟨none, 0, 0, [], rfl, Nat.le_refl _, by omega, RdF.nil _ _ _⟩

/-- What is read of a cell of noughts, and that it may be written. -/
theorem zeros_facts {w : World} {g : Nat} {t : TypeId} (h : Blk w g t zeros) :
    (w.cell? ⟨g, 0, none⟩ = some (.int .i64 0) ∧ w.cell? ⟨g, 1, none⟩ = some (.int .i64 0) ∧ w.cell? ⟨g, 2, none⟩ = some (.int .i64 0) ∧ w.cell? ⟨g, 3, none⟩ = some (.int .i64 0) ∧ w.cell? ⟨g, 4, none⟩ = some (.int .i64 0) ∧ w.cell? ⟨g, 5, none⟩ = some (.int .i64 0) ∧
      w.cell? ⟨g, 6, none⟩ = some (.slice none 0 0) ∧ w.cell? ⟨g, 7, none⟩ = some (.string (strOf []))) :=
  ⟨h.cell 0, h.cell 1, h.cell 2, h.cell 3, h.cell 4, h.cell 5, h.cell 6, h.cell 7⟩
theorem frozen_facts {w : World} {g : Nat} {t : TypeId} {cs : Array Value} (h : Blk w g t cs) :
    w.frozen? ⟨g, 0, none⟩ = false ∧ w.frozen? ⟨g, 1, none⟩ = false ∧ w.frozen? ⟨g, 2, none⟩ = false ∧ w.frozen? ⟨g, 3, none⟩ = false ∧ w.frozen? ⟨g, 4, none⟩ = false ∧ w.frozen? ⟨g, 5, none⟩ = false ∧ w.frozen? ⟨g, 6, none⟩ = false ∧ w.frozen? ⟨g, 7, none⟩ = false :=
  ⟨h.frozen 0, h.frozen 1, h.frozen 2, h.frozen 3, h.frozen 4, h.frozen 5, h.frozen 6, h.frozen 7⟩

set_option maxHeartbeats 8000000 in
set_option maxRecDepth 100000 in
theorem rtakec_any (A : Option Addr) (n c : Nat) (bs : List Nat) (v : Int) (w : World) (hb : ∀ c ∈ bs, c < 256) (h : Rd w w.heap.size 1 A n (bvs bs)) (hnc : n ≤ c) (hmax : c ≤ 9223372036854775807) (v0 : -9223372036854775808 ≤ v) (v1 : v ≤ 9223372036854775807) :
    Calls Try.prog 30 #[.slice A n c, .int .i64 v] w (NewCmd w (takeC bs v)) := by
  obtain ⟨w0, hw0⟩ : ∃ w0 : World, w0 = w.alloc (.cells zeros 24) := ⟨_, rfl⟩
  have hk0 : Blk w0 w.heap.size 24 zeros := by rw [hw0]; exact Blk.new _ _ _
  have hb0 : Below w.heap.size w w0 := by rw [hw0]; exact (Below.refl _ _).alloc (Nat.le_refl _) _
  have hs0 : w.heap.size < w0.heap.size := hk0.lt
  obtain ⟨P, hP⟩ : ∃ P, takeC bs v = P := ⟨_, rfl⟩
  rw [hP]
  have HP := Lib.hid hP
  have HW := Lib.hid hw0
  have HK := Lib.hid hk0
  have HR := Lib.hid h
  have HB := Lib.hid hb
  obtain ⟨y0, y1, y2, y3, y4, y5, y6, y7⟩ := zeros_facts hk0
  obtain ⟨z0, z1, z2, z3, z4, z5, z6, z7⟩ := frozen_facts hk0
  clear hw0 hk0 hP h hb
  go_enter Try.func30, Try.ntmps30
  go_upto_region 1 with fail
  rw [show w.alloc (.cells #[.int .i64 0, .int .i64 0, .int .i64 0, .int .i64 0, .int .i64 0, .int .i64 0, .slice none 0 0, .string ⟨#[]⟩] 24) = w0 from HW.out.symm]
  cases hv : inR v 1 3 with
  | false =>
    obtain rfl : P = (noCmd, [], 1) := by rw [← HP.out]; unfold takeC; rw [if_pos hv]
    go_wp2_with (go_at_call 42; refine (in_e hv _).mono ?_; rintro _ _ ⟨rfl, rfl⟩)
    (try simp only [Exit.inBlock, Exit.then])
    obtain ⟨h1, h2⟩ := blk_set8 HK.out (.int .i64 0) (.int .i64 0) (.int .i64 0) (.int .i64 0) (.int .i64 0) (.int .i64 0) (.slice none 0 0) (.string ⟨#[]⟩)
    refine bodyPost_ret (results_cell3 rfl _ _ w.heap.size 24 _ (0, 0) _ rfl h1 Try.underlying24 rfl (by kernel_rfl)) rfl ?_
    exact ⟨(none, 0), .slice none 0 0, rfl, RdC.no _ _, newrow_nil _, hb0.grown h2 (Nat.le_of_lt hs0) (fun k hk => by injection hk with hk; omega)⟩
  | true =>
    have hP1 : P = if (takeRow bs).2 ≠ 0 then (noCmd, [], (takeRow bs).2) else if check 1 v (takeRow bs).1 ≠ 0 then (noCmd, [], check 1 v (takeRow bs).1)
        else if putC (cmdOf (known v (takeRow bs).1)) (restOf v (takeRow bs).1) v = (bs, 0) then (cmdOf (known v (takeRow bs).1), restOf v (takeRow bs).1, 0) else (noCmd, [], 6) := by rw [← HP.out]; unfold takeC; rw [if_neg (by rw [hv]; decide)]
    have htop := top_18 hv
    obtain ⟨l, e, hle⟩ : ∃ l e, takeRow bs = (l, e) := ⟨_, _, rfl⟩
    rw [hle] at hP1
    simp only [] at hP1
    have hcall := rtake_row A n c bs w0 HB.out ((HR.out.below hb0).more (Nat.le_of_lt hs0)) hnc hmax
    rw [hle] at hcall
    simp only [] at hcall
    have HC := Lib.hid hcall
    have HL := Lib.hid hle
    have HP := Lib.hid hP1
    clear hle hcall hP1
    by_cases he : e = 0
    · subst he
      have htk := took_ok HB.out HL.out
      have HTK := Lib.hid htk.1
      have hl16 := htk.2
      clear htk
      go_wp2_with (first
        | (go_at_call 42; refine (in_e hv _).mono ?_; rintro _ _ ⟨rfl, rfl⟩)
        | fail)
      refine HC.out.mono ?_
      rintro _ w1 ⟨u1, rfl, ⟨A1, n1, c1, S1, rfl, hn1, hc1, hrd1⟩, hb1⟩
      have hln1 := hrd1.1
      have hbw1 := hb0.trans (hb1.mono (Nat.le_of_lt hs0))
      have hs1 : w.heap.size < w1.heap.size := Nat.lt_of_lt_of_le hs0 hb1.size
      have HRD1 := Lib.hid hrd1
      have HN1 := Lib.hid hln1
      have hn16 : n1 ≤ 16384 := by omega
      have hcheck := rcheck_any 1 v A1 n1 c1 l S1 w1 (by decide) (by decide) v0 v1 hrd1 hn1 hc1 (by omega) (fun f hf => (HTK.out f hf).1)
      obtain ⟨m, hm⟩ : ∃ m, check 1 v l = m := ⟨_, rfl⟩
      rw [hm] at hcheck
      have hm8 : m ≤ 6 := by
        rw [← hm]
        unfold Fo.check
        have := Tl.may_err l
        split
        · omega
        split
        · omega
        split <;> omega
      have HM := Lib.hid hm
      have HCK := Lib.hid hcheck
      have HK1 := Lib.hid (HK.out.below hb1 hs0)
      clear y0 y1 y2 y3 y4 y5 y6 y7 z0 z1 z2 z3 z4 z5 z6 z7
      obtain ⟨y0, y1, y2, y3, y4, y5, y6, y7⟩ := zeros_facts HK1.out
      obtain ⟨z0, z1, z2, z3, z4, z5, z6, z7⟩ := frozen_facts HK1.out
      clear hrd1 hln1 hcheck hm hb1
      by_cases h0 : m = 0
      · subst h0
        have hp1 : P = if putC (cmdOf (known v l)) (restOf v l) v = (bs, 0) then (cmdOf (known v l), restOf v l, 0) else (noCmd, [], 6) := by rw [HP.out, if_neg (by simp), HM.out, if_neg (by simp)]
        have HP := Lib.hid hp1
        clear hp1
        go_wp2_with fail
        refine HCK.out.mono ?_
        rintro _ w2 ⟨rfl, hb2⟩
        have hs2 : w.heap.size < w2.heap.size := Nat.lt_of_lt_of_le hs1 hb2.size
        have HTOP := Lib.hid (rtop_any 1 v w2 (by decide) (by decide) v0 v1)
        go_wp2_with fail
        refine HTOP.out.mono ?_
        rintro _ w3 ⟨rfl, hb3⟩
        have hb13 : Below w1.heap.size w1 w3 := hb2.trans (hb3.mono hb2.size)
        have HSP := Lib.hid (rsplit_any A1 n1 c1 (top 1 v) l S1 w3 ((HRD1.out.below hb13).more hb13.size) hn1 hc1 (by omega))
        go_wp2_with fail
        refine HSP.out.mono ?_
        rintro _ w4 ⟨u2, u3, rfl, ⟨A2, n2, c2, S2, rfl, hn2, hc2, hrd2⟩, ⟨A3, n3, c3, S3, rfl, hn3, hc3, hrd3⟩, hb4⟩
        have hb14 : Below w1.heap.size w1 w4 := hb13.trans (hb4.mono hb13.size)
        have hbw4 := hbw1.trans (hb14.mono (Nat.le_of_lt hs1))
        have hs4 : w.heap.size < w4.heap.size := Nat.lt_of_lt_of_le hs1 hb14.size
        have HK4 := Lib.hid (HK1.out.below hb14 hs1)
        have hkn : l.filter (fun f => decide (f.num ≤ top 1 v)) = known v l := rfl
        have hre : l.filter (fun f => !decide (f.num ≤ top 1 v)) = restOf v l := rfl
        rw [hkn] at hrd2
        rw [hre] at hrd3
        obtain ⟨kl, hkl⟩ : ∃ kl, known v l = kl := ⟨_, rfl⟩
        obtain ⟨rl, hrl⟩ : ∃ rl, restOf v l = rl := ⟨_, rfl⟩
        have hkok : ∀ f ∈ kl, Fok f ∧ 1 ≤ f.num ∧ f.num ≤ 8 := fun f hf => by
          rw [← hkl] at hf
          obtain ⟨h1, h2⟩ := List.mem_filter.1 hf
          have := HTK.out f h1
          have h3 := of_decide_eq_true h2
          exact ⟨this.1, this.2, by omega⟩
        have hrok : ∀ f ∈ rl, Fok f := fun f hf => by
          rw [← hrl] at hf
          exact (HTK.out f (List.mem_filter.1 hf).1).1
        have hn3' : n3 ≤ 16384 := by
          have h1 := hrd3.1
          have h2 := List.length_filter_le (fun f : Fel => !decide (f.num ≤ top 1 v)) l
          rw [hre] at h2
          omega
        rw [hkl] at hrd2
        rw [hrl] at hrd3
        have hp1 := HP.out
        rw [hkl, hrl] at hp1
        have HP := Lib.hid hp1
        have HKO := Lib.hid hkok
        have HRO := Lib.hid hrok
        have HRD2 := Lib.hid hrd2
        have HRD3 := Lib.hid hrd3
        have HKN := Lib.hid hrd2.1
        clear hkn hre hkl hrl hp1 hkok hrok hrd2 hrd3 hb2 hb3 hb4 hb13 HTOP HSP y0 y1 y2 y3 y4 y5 y6 y7 z0 z1 z2 z3 z4 z5 z6 z7
        obtain ⟨w5, hw5⟩ : ∃ w5 : World, w5 = (w4.alloc (.cells (ncells noCmd) 87)).alloc (.cells zeros 24) := ⟨_, rfl⟩
        obtain ⟨gn, hgn⟩ : ∃ gn, gn = w4.heap.size := ⟨_, rfl⟩
        obtain ⟨gc, hgc⟩ : ∃ gc, gc = w4.heap.size + 1 := ⟨_, rfl⟩
        have hls : LS w4 w5 gn gc 87 24 noCmd (none, 0) := by
          refine ⟨?_, ?_, RdC.no _ _, .inl rfl, by omega, ⟨by omega, by omega⟩, ?_⟩
          · rw [hw5, hgn]; exact (Blk.new _ _ _).alloc _
          · rw [hw5, hgc]; simpa [zeros, ccells, noCmd] using Blk.new (w4.alloc (.cells (ncells noCmd) 87)) zeros 24
          · rw [hw5]; exact ((Below.refl _ _).alloc (Nat.le_refl _) _).alloc (by simp) _
        have HW5 := Lib.hid hw5
        have HGN := Lib.hid hgn
        have HGC := Lib.hid hgc
        have HLS := Lib.hid hls
        clear hw5 hgn hgc hls
        go_upto_region 12 with fail
        rw [show (w4.alloc (.cells #[.int .i64 0, .int .i64 0, .int .i64 0, .int .i64 0, .int .i64 0, .int .i64 0, .int .i64 0] 87)).alloc (.cells #[.int .i64 0, .int .i64 0, .int .i64 0, .int .i64 0, .int .i64 0, .int .i64 0, .slice none 0 0, .string ⟨#[]⟩] 24) = w5 from HW5.out.symm]
        rw [← HGC.out, ← HGN.out]
        go_wp2
        go_loopw [13] (fun i wr => ∃ (j : Nat) (C : Cmd) (s : Option Addr × Nat), j ≤ n2 ∧ i = .int .i64 (j : Int) ∧ (kl.take j).foldl stepC noCmd = C ∧ LS w4 wr gn gc 87 24 C s) (fun i _ => n2 - (intOf i).toNat)
        case atStart => exact ⟨0, noCmd, (none, 0), Nat.zero_le _, rfl, rfl, HLS.out⟩
        case round =>
          obtain ⟨j, C, s, hj, rfl, hC, hls⟩ := hrel
          have HC := Lib.hid hC
          have HL5 := Lib.hid hls
          have hb4r := hls.below
          have hszr := hb4r.size
          have hgn0 := hls.kn.lt
          have hgc0 := hls.kc.lt
          have hgne := hls.ne
          by_cases hlt : j < n2
          · obtain ⟨ad, f, sf, rfl, hab, hf, hs, r0, r1, r2, r3, hrd, hs1', hs2'⟩ := (HRD2.out.below hb4r).spell hlt
            obtain ⟨hok, hn1', hn8'⟩ := HKO.out f (List.mem_of_getElem? hf)
            have HST := Lib.hid (fold_snoc hf)
            have hb17 := hok.2.2.2.2.2
            have HOK := Lib.hid hok
            have HRDF := Lib.hid hrd
            clear hC hls hf hs hok hrd
            by_cases hn6 : f.num ≤ 6
            · obtain ⟨q0, q1, q2, q3, q4, q5, q6⟩ := ncells_facts HL5.out.kn
              obtain ⟨p0, p1, p2, p3, p4, p5, p6⟩ := nfrozen_facts HL5.out.kn
              have hcase : f.num = 1 ∨ f.num = 2 ∨ f.num = 3 ∨ f.num = 4 ∨ f.num = 5 ∨ f.num = 6 := by omega
              rcases hcase with hi | hi | hi | hi | hi | hi
              · have hs6 : stepC C f = { C with kind := cutN f.n } := by unfold stepC; rw [if_pos hi]
                have HS6 := Lib.hid hs6
                rw [hi] at r0
                clear hi hs6
                go_wp2
                go_roundw
                case rel =>
                  rw [show (if (1048577 : Int) < (f.n : Int) then (1048577 : Int) else (f.n : Int)) = cutN f.n from cut_if f.n]
                  exact ⟨j + 1, { C with kind := cutN f.n }, s, by omega, by go_num, by rw [HST.out, HC.out, HS6.out], (HL5.out.num (c' := { C with kind := cutN f.n }) 1 (.int .i64 (cutN f.n)) rfl rfl (by simp [ncells])).alloc _⟩
                case measure => simp [intOf]; omega
              · have hs6 : stepC C f = { C with client := cutN f.n } := by unfold stepC; rw [if_neg (by omega), if_pos hi]
                have HS6 := Lib.hid hs6
                rw [hi] at r0
                clear hi hs6
                go_wp2
                go_roundw
                case rel =>
                  rw [show (if (1048577 : Int) < (f.n : Int) then (1048577 : Int) else (f.n : Int)) = cutN f.n from cut_if f.n]
                  exact ⟨j + 1, { C with client := cutN f.n }, s, by omega, by go_num, by rw [HST.out, HC.out, HS6.out], (HL5.out.num (c' := { C with client := cutN f.n }) 2 (.int .i64 (cutN f.n)) rfl rfl (by simp [ncells])).alloc _⟩
                case measure => simp [intOf]; omega
              · have hs6 : stepC C f = { C with seq := cutN f.n } := by unfold stepC; rw [if_neg (by omega), if_neg (by omega), if_pos hi]
                have HS6 := Lib.hid hs6
                rw [hi] at r0
                clear hi hs6
                go_wp2
                go_roundw
                case rel =>
                  rw [show (if (1048577 : Int) < (f.n : Int) then (1048577 : Int) else (f.n : Int)) = cutN f.n from cut_if f.n]
                  exact ⟨j + 1, { C with seq := cutN f.n }, s, by omega, by go_num, by rw [HST.out, HC.out, HS6.out], (HL5.out.num (c' := { C with seq := cutN f.n }) 3 (.int .i64 (cutN f.n)) rfl rfl (by simp [ncells])).alloc _⟩
                case measure => simp [intOf]; omega
              · have hs6 : stepC C f = { C with set := cutN f.n } := by unfold stepC; rw [if_neg (by omega), if_neg (by omega), if_neg (by omega), if_pos hi]
                have HS6 := Lib.hid hs6
                rw [hi] at r0
                clear hi hs6
                go_wp2
                go_roundw
                case rel =>
                  rw [show (if (1048577 : Int) < (f.n : Int) then (1048577 : Int) else (f.n : Int)) = cutN f.n from cut_if f.n]
                  exact ⟨j + 1, { C with set := cutN f.n }, s, by omega, by go_num, by rw [HST.out, HC.out, HS6.out], (HL5.out.num (c' := { C with set := cutN f.n }) 4 (.int .i64 (cutN f.n)) rfl rfl (by simp [ncells])).alloc _⟩
                case measure => simp [intOf]; omega
              · have hs6 : stepC C f = { C with id := cutN f.n } := by unfold stepC; rw [if_neg (by omega), if_neg (by omega), if_neg (by omega), if_neg (by omega), if_pos hi]
                have HS6 := Lib.hid hs6
                rw [hi] at r0
                clear hi hs6
                go_wp2
                go_roundw
                case rel =>
                  rw [show (if (1048577 : Int) < (f.n : Int) then (1048577 : Int) else (f.n : Int)) = cutN f.n from cut_if f.n]
                  exact ⟨j + 1, { C with id := cutN f.n }, s, by omega, by go_num, by rw [HST.out, HC.out, HS6.out], (HL5.out.num (c' := { C with id := cutN f.n }) 5 (.int .i64 (cutN f.n)) rfl rfl (by simp [ncells])).alloc _⟩
                case measure => simp [intOf]; omega
              · have hs6 : stepC C f = { C with n := cutN f.n } := by unfold stepC; rw [if_neg (by omega), if_neg (by omega), if_neg (by omega), if_neg (by omega), if_neg (by omega), if_pos hi]
                have HS6 := Lib.hid hs6
                rw [hi] at r0
                clear hi hs6
                go_wp2
                go_roundw
                case rel =>
                  rw [show (if (1048577 : Int) < (f.n : Int) then (1048577 : Int) else (f.n : Int)) = cutN f.n from cut_if f.n]
                  exact ⟨j + 1, { C with n := cutN f.n }, s, by omega, by go_num, by rw [HST.out, HC.out, HS6.out], (HL5.out.num (c' := { C with n := cutN f.n }) 6 (.int .i64 (cutN f.n)) rfl rfl (by simp [ncells])).alloc _⟩
                case measure => simp [intOf]; omega
            · by_cases hi : f.num = 7
              · have hs6 : stepC C f = { C with chunks := (unchunk f.b).1 } := by unfold stepC; rw [if_neg (by omega), if_neg (by omega), if_neg (by omega), if_neg (by omega), if_neg (by omega), if_neg (by omega), if_pos hi]
                have HS6 := Lib.hid hs6
                rw [hi] at r0
                clear hi hs6 hn6
                obtain ⟨wb, hwb⟩ : ∃ wb : World, wb = wr.alloc (.cells #[.int .i64 7, .int .i64 f.wire, .int .u64 (f.n : Int), .slice sf.1 f.b.length sf.2] 55) := ⟨_, rfl⟩
                have hbb : Below wr.heap.size wr wb := by rw [hwb]; exact (Below.refl _ _).alloc (Nat.le_refl _) _
                have hbs : wr.heap.size < wb.heap.size := by rw [hwb]; simp
                have HUN := Lib.hid (runchunk_any sf.1 f.b.length sf.2 f.b wb HOK.out.1.2 ((HRDF.out.more hszr).below hbb |>.more (Nat.le_of_lt hbs)) hs1' hs2' (by omega))
                have HLB := Lib.hid (HL5.out.mono hbb)
                have HWB := Lib.hid hwb
                have hbk : Blk wb wr.heap.size 55 #[.int .i64 7, .int .i64 f.wire, .int .u64 (f.n : Int), .slice sf.1 f.b.length sf.2] := by rw [hwb]; exact Blk.new _ _ _
                have HBK := Lib.hid hbk
                clear hwb hbb hbk
                go_wp2_with fail
                rw [← HWB.out]
                refine HUN.out.mono ?_
                rintro _ wq ⟨vq, rfl, hownq, hbq⟩
                obtain ⟨Aq, cq, rfl, hcq, hmq⟩ := slice_of_own hownq
                have hatq := own_at hownq
                have HLQ := Lib.hid (HLB.out.mono hbq)
                have HOQ := Lib.hid hownq
                obtain ⟨kq0, kq1, kq2, kq3, kq4, kq5, kq6, kq7⟩ := ccells_facts HLQ.out.kc
                obtain ⟨fq0, fq1, fq2, fq3, fq4, fq5, fq6, fq7⟩ := frozen_facts HLQ.out.kc
                have kb0 : (wq.setCell ⟨gc, 6, none⟩ (.slice Aq (unchunk f.b).1.length cq)).cell? ⟨wr.heap.size, 0, none⟩ = some (.int .i64 7) := ((HBK.out.below hbq hbs).far (p := ⟨gc, 6, none⟩) (Nat.ne_of_gt hgc0) _).cell 0
                clear hownq hbq kq0 kq1 kq2 kq3 kq4 kq5 kq7
                go_wp2
                go_roundw
                case rel =>
                  exact ⟨j + 1, { C with chunks := (unchunk f.b).1 }, (Aq, cq), by omega, by go_num, by rw [HST.out, HC.out, HS6.out], HLQ.out.chu (unchunk f.b).1 Aq _ cq rfl (Rd.of_own HOQ.out) hcq hmq (fun ad had => by have := hatq ad had; exact ⟨by omega, by omega, by omega⟩)⟩
                case measure => simp [intOf]; omega
              · have hs6 : stepC C f = { C with text := f.b } := by unfold stepC; rw [if_neg (by omega), if_neg (by omega), if_neg (by omega), if_neg (by omega), if_neg (by omega), if_neg (by omega), if_neg (by omega), if_pos (by omega)]
                have HS6 := Lib.hid hs6
                have hi8 : f.num = 8 := by omega
                rw [hi8] at r0
                clear hi8 hi hs6 hn6
                obtain ⟨wb, hwb⟩ : ∃ wb : World, wb = wr.alloc (.cells #[.int .i64 8, .int .i64 f.wire, .int .u64 (f.n : Int), .slice sf.1 f.b.length sf.2] 55) := ⟨_, rfl⟩
                have hbb : Below wr.heap.size wr wb := by rw [hwb]; exact (Below.refl _ _).alloc (Nat.le_refl _) _
                have hs := run_str (P := Try.prog) wb 25 9 5 Try.underlying25 Try.underlying5 Try.underlying9 ((HRDF.out.more hszr).below hbb) sf.2
                rw [hwb] at hs
                obtain ⟨kq0, kq1, kq2, kq3, kq4, kq5, kq6, kq7⟩ := ccells_facts HL5.out.kc
                obtain ⟨fq0, fq1, fq2, fq3, fq4, fq5, fq6, fq7⟩ := frozen_facts HL5.out.kc
                clear hwb hbb kq0 kq1 kq2 kq3 kq4 kq5 kq6
                go_wp2
                go_roundw
                case rel =>
                  exact ⟨j + 1, { C with text := f.b }, s, by omega, by go_num, by rw [HST.out, HC.out, HS6.out], (HL5.out.txt f.b).alloc _⟩
                case measure => simp [intOf]; omega
          · obtain rfl : j = n2 := by omega
            have hCc : cmdOf kl = C := by rw [← HC.out, List.take_of_length_le (by have := HKN.out; omega)]; rfl
            have HCC := Lib.hid hCc
            have hcok : Cok C := by rw [← hCc]; exact fold_ok kl noCmd no_ok (fun f hf => (HKO.out f hf).1)
            have HCOK := Lib.hid hcok
            obtain ⟨q0, q1, q2, q3, q4, q5, q6⟩ := ncells_facts HL5.out.kn
            obtain ⟨kq0, kq1, kq2, kq3, kq4, kq5, kq6, kq7⟩ := ccells_facts HL5.out.kc
            obtain ⟨fq0, fq1, fq2, fq3, fq4, fq5, fq6, fq7⟩ := frozen_facts HL5.out.kc
            clear hCc hcok hC hls
            go_upto_region 28 with fail
            obtain ⟨w7, hw7⟩ : ∃ w7 : World, w7 = ((((((wr.setCell ⟨gc, 0, none⟩ (.int .i64 C.kind)).setCell ⟨gc, 1, none⟩ (.int .i64 C.client)).setCell ⟨gc, 2, none⟩ (.int .i64 C.seq)).setCell ⟨gc, 3, none⟩ (.int .i64 C.set)).setCell ⟨gc, 4, none⟩ (.int .i64 C.id)).setCell ⟨gc, 5, none⟩ (.int .i64 C.n)) := ⟨_, rfl⟩
            have hk7 : Blk w7 gc 24 (cblk C s) := by
              have h1 := (((((HL5.out.kc.put 0 (.int .i64 C.kind)).put 1 (.int .i64 C.client)).put 2 (.int .i64 C.seq)).put 3 (.int .i64 C.set)).put 4 (.int .i64 C.id)).put 5 (.int .i64 C.n)
              rw [hw7]
              simpa [ccells, cblk] using h1
            have hg7 : wr.grownBy w7 (some gc) := by
              rw [hw7]
              exact (((((grown_cell _ _ _ _).trans (grown_cell _ _ _ _)).trans (grown_cell _ _ _ _)).trans (grown_cell _ _ _ _)).trans (grown_cell _ _ _ _)).trans (grown_cell _ _ _ _)
            have hb47 : Below w4.heap.size w4 w7 := hb4r.grown hg7 hszr (fun k hk => by injection hk with hk; have := HL5.out.low.2; omega)
            have hrc7 : RdC w7 w7.heap.size C s := ⟨(HL5.out.rd.1.grown (Nat.le_refl _) hg7 (HL5.out.far.imp id fun hh ad had => by simp; exact (hh ad had).2.1)).more hg7.size, HL5.out.rd.2⟩
            have hbw7 := hbw4.trans (hb47.mono (Nat.le_of_lt hs4))
            have hs7 : w.heap.size < w7.heap.size := Nat.lt_of_lt_of_le hs4 hb47.size
            have HPU := Lib.hid (rputc_any C s v A3 n3 c3 rl S3 w7 hrc7 HCOK.out ((HRD3.out.below hb47).more hb47.size) hn3 hc3 (by omega) HRO.out v0 v1)
            obtain ⟨pb, pe, hpr⟩ : ∃ pb pe, putC C rl v = (pb, pe) := ⟨_, _, rfl⟩
            have hpby := putC_byte (v := v) HCOK.out HRO.out
            rw [hpr] at HPU hpby
            have hpp := HP.out
            rw [HCC.out, hpr] at hpp
            have HPP := Lib.hid hpp
            have HPB := Lib.hid hpby
            have HW7 := Lib.hid hw7
            have HK7 := Lib.hid hk7
            have HFAR := Lib.hid (show C.chunks.length = 0 ∨ ∀ ad : Addr, s.1 = some ad → w4.heap.size ≤ ad.block from HL5.out.far.imp id fun hh ad had => (hh ad had).2.2)
            have HR7 := Lib.hid hrc7
            have hgc7 := hk7.lt
            obtain ⟨t0, t1, t2, t3, t4, t5, t6, t7⟩ := cblk_cells hk7
            rw [← hw7]
            clear hw7 hk7 hrc7 hg7 hpr hpby hpp q0 q1 q2 q3 q4 q5 q6 kq0 kq1 kq2 kq3 kq4 kq5 kq6 kq7 fq0 fq1 fq2 fq3 fq4 fq5 fq6 fq7
            unfold cagg cblk at HPU
            go_wp2_with fail
            refine HPU.out.mono ?_
            rintro _ w8 ⟨v8, rfl, hown8, hb8⟩
            obtain ⟨A8, c8, rfl, hc8, hm8'⟩ := slice_of_own hown8
            have hbw8 := hbw7.trans (hb8.mono (Nat.le_of_lt hs7))
            have hs8 : w.heap.size < w8.heap.size := Nat.lt_of_lt_of_le hs7 hb8.size
            have HK8 := Lib.hid (((HK4.out.below hb47 hs4)).below hb8 hs7)
            have HKC8 := Lib.hid (HK7.out.below hb8 hgc7)
            have hsA := run_str (P := Try.prog) w8 25 9 5 Try.underlying25 Try.underlying5 Try.underlying9 (Rd.of_own hown8) c8
            have hsB := run_str (P := Try.prog) w8 25 9 5 Try.underlying25 Try.underlying5 Try.underlying9 (HR.out.below hbw8) c
            have hq := str_beq HPB.out HB.out
            obtain ⟨y0, y1, y2, y3, y4, y5, y6, y7⟩ := zeros_facts HK8.out
            obtain ⟨z0, z1, z2, z3, z4, z5, z6, z7⟩ := frozen_facts HK8.out
            have hb48 : Below w4.heap.size w4 w8 := hb47.trans (hb8.mono hb47.size)
            have HRC8 := Lib.hid ((HR7.out.below hb8).more hb8.size)
            have HRD8 := Lib.hid ((HRD3.out.below hb48).more hb48.size)
            clear hown8 t0 t1 t2 t3 t4 t5 t6 t7
            by_cases he0 : pe = 0
            · subst he0
              by_cases hbb : pb = bs
              · rw [decide_eq_true hbb] at hq
                have hpf : P = (C, rl, 0) := by rw [HPP.out, if_pos (by rw [hbb])]
                have HPF := Lib.hid hpf
                obtain ⟨t0, t1, t2, t3, t4, t5, t6, t7⟩ := cblk_cells HKC8.out
                clear hbb hpf
                go_wp2
                (try simp only [Exit.inBlock, Exit.then])
                obtain ⟨h1, h2⟩ := blk_set8 HK8.out (.int .i64 C.kind) (.int .i64 C.client) (.int .i64 C.seq) (.int .i64 C.set) (.int .i64 C.id) (.int .i64 C.n) (.slice s.1 C.chunks.length s.2) (.string (strOf C.text))
                rw [HPF.out]
                refine bodyPost_ret (results_cell3 rfl _ _ w.heap.size 24 _ (0, 0) _ rfl h1 Try.underlying24 rfl (by kernel_rfl)) rfl ?_
                exact ⟨s, .slice A3 n3 c3, rfl, ⟨(HRC8.out.1.grown (Nat.le_refl _) h2 (HFAR.out.imp id fun hh ad had => by have := hh ad had; simp; omega)).more h2.size, HRC8.out.2⟩, ⟨A3, n3, c3, S3, rfl, hn3, hc3, (rdf_no_zeros HRD8.out HK8.out (Nat.le_refl _) h2).more h2.size⟩, hbw8.grown h2 (Nat.le_of_lt hs8) (fun k hk => by injection hk with hk; omega)⟩
              · rw [decide_eq_false hbb] at hq
                have hpf : P = (noCmd, [], 6) := by rw [HPP.out, if_neg (fun e => hbb (congrArg Prod.fst e))]
                have HPF := Lib.hid hpf
                clear hbb hpf
                go_wp2
                (try simp only [Exit.inBlock, Exit.then])
                obtain ⟨h1, h2⟩ := blk_set8 HK8.out (.int .i64 0) (.int .i64 0) (.int .i64 0) (.int .i64 0) (.int .i64 0) (.int .i64 0) (.slice none 0 0) (.string ⟨#[]⟩)
                rw [HPF.out]
                refine bodyPost_ret (results_cell3 rfl _ _ w.heap.size 24 _ (0, 0) _ rfl h1 Try.underlying24 rfl (by kernel_rfl)) rfl ?_
                exact ⟨(none, 0), .slice none 0 0, rfl, RdC.no _ _, newrow_nil _, hbw8.grown h2 (Nat.le_of_lt hs8) (fun k hk => by injection hk with hk; omega)⟩
            · have q : ((pe : Int) != 0) = true := by rw [bne_iff_ne]; omega
              have hpf : P = (noCmd, [], 6) := by rw [HPP.out, if_neg (fun e => he0 (congrArg Prod.snd e))]
              have HPF := Lib.hid hpf
              clear he0 hpf
              go_wp2
              (try simp only [Exit.inBlock, Exit.then])
              obtain ⟨h1, h2⟩ := blk_set8 HK8.out (.int .i64 0) (.int .i64 0) (.int .i64 0) (.int .i64 0) (.int .i64 0) (.int .i64 0) (.slice none 0 0) (.string ⟨#[]⟩)
              rw [HPF.out]
              refine bodyPost_ret (results_cell3 rfl _ _ w.heap.size 24 _ (0, 0) _ rfl h1 Try.underlying24 rfl (by kernel_rfl)) rfl ?_
              exact ⟨(none, 0), .slice none 0 0, rfl, RdC.no _ _, newrow_nil _, hbw8.grown h2 (Nat.le_of_lt hs8) (fun k hk => by injection hk with hk; omega)⟩
      · have q : ((m : Int) != 0) = true := by rw [bne_iff_ne]; omega
        have hp : P = (noCmd, [], m) := by rw [HP.out, HM.out, if_neg (by simp), if_pos h0]
        have HPP := Lib.hid hp
        clear hp h0
        go_wp2_with fail
        refine HCK.out.mono ?_
        rintro _ w2 ⟨rfl, hb2⟩
        have HK2 := Lib.hid (HK1.out.below hb2 hs1)
        clear y0 y1 y2 y3 y4 y5 y6 y7 z0 z1 z2 z3 z4 z5 z6 z7
        obtain ⟨y0, y1, y2, y3, y4, y5, y6, y7⟩ := zeros_facts HK2.out
        obtain ⟨z0, z1, z2, z3, z4, z5, z6, z7⟩ := frozen_facts HK2.out
        have hs2 : w.heap.size < w2.heap.size := Nat.lt_of_lt_of_le hs1 hb2.size
        have hbw2 := hbw1.trans (hb2.mono (Nat.le_of_lt hs1))
        go_wp2
        (try simp only [Exit.inBlock, Exit.then])
        obtain ⟨h1, h2⟩ := blk_set8 HK2.out (.int .i64 0) (.int .i64 0) (.int .i64 0) (.int .i64 0) (.int .i64 0) (.int .i64 0) (.slice none 0 0) (.string ⟨#[]⟩)
        rw [HPP.out]
        refine bodyPost_ret (results_cell3 rfl _ _ w.heap.size 24 _ (0, 0) _ rfl h1 Try.underlying24 rfl (by kernel_rfl)) rfl ?_
        exact ⟨(none, 0), .slice none 0 0, rfl, RdC.no _ _, newrow_nil _, hbw2.grown h2 (Nat.le_of_lt hs2) (fun k hk => by injection hk with hk; omega)⟩
    · have q : ((e : Int) != 0) = true := by rw [bne_iff_ne]; omega
      have hp : P = (noCmd, [], e) := by rw [HP.out, if_pos he]
      have HPP := Lib.hid hp
      clear hp he
      go_wp2_with (first
        | (go_at_call 42; refine (in_e hv _).mono ?_; rintro _ _ ⟨rfl, rfl⟩)
        | fail)
      refine HC.out.mono ?_
      rintro _ w1 ⟨u1, rfl, _, hb1⟩
      have HK1 := Lib.hid (HK.out.below hb1 hs0)
      clear y0 y1 y2 y3 y4 y5 y6 y7 z0 z1 z2 z3 z4 z5 z6 z7
      obtain ⟨y0, y1, y2, y3, y4, y5, y6, y7⟩ := zeros_facts HK1.out
      obtain ⟨z0, z1, z2, z3, z4, z5, z6, z7⟩ := frozen_facts HK1.out
      have hs1 : w.heap.size < w1.heap.size := Nat.lt_of_lt_of_le hs0 hb1.size
      have hbw1 := hb0.trans (hb1.mono (Nat.le_of_lt hs0))
      go_wp2
      (try simp only [Exit.inBlock, Exit.then])
      obtain ⟨h1, h2⟩ := blk_set8 HK1.out (.int .i64 0) (.int .i64 0) (.int .i64 0) (.int .i64 0) (.int .i64 0) (.int .i64 0) (.slice none 0 0) (.string ⟨#[]⟩)
      rw [HPP.out]
      refine bodyPost_ret (results_cell3 rfl _ _ w.heap.size 24 _ (0, 0) _ rfl h1 Try.underlying24 rfl (by kernel_rfl)) rfl ?_
      exact ⟨(none, 0), .slice none 0 0, rfl, RdC.no _ _, newrow_nil _, hbw1.grown h2 (Nat.le_of_lt hs1) (fun k hk => by injection hk with hk; omega)⟩
end Go.Proofs.Ytkagonijkalicaa
