/-
  The walks of the landed forms.Specs, Top, Check.
-/
import Derived.Test.YtkagonijkalicaaFoFields
import Derived.Test.YtkagonijkalicaaFoCount
import Derived.Test.YtkagonijkalicaaMgI
set_option linter.unusedVariables false
set_option linter.unusedSimpArgs false
namespace Go.Proofs.Ytkagonijkalicaa
open Go.RowKit
open Fo (Spc specAll specs inv top check okSpec cntN lookS)
open Tl (Fel may)

theorem specAll_num (k : Int) : ∀ (j : Nat) (s : Spc), (specAll k)[j]? = some s → s.num = (j : Int) + 1 := by
  have key : ∀ i : Nat, i < 9 → ∀ (j : Nat) (s : Spc), (specAll (i : Int))[j]? = some s → s.num = (j : Int) + 1 := by
    have h0 : ∀ i : Nat, i < 9 → ∀ j : Nat, j < 10 → ((specAll (i : Int))[j]?).all (fun s => decide (s.num = (j : Int) + 1)) = true := by decide +kernel
    intro i hi j s hs
    have hj : j < 10 := by
      have := (List.getElem?_eq_some_iff.1 hs).1
      have := Fo.specAll_len (i : Int)
      omega
    have := h0 i hi j hj
    rw [hs] at this
    simpa using this
  intro j s hs
  by_cases h : 1 ≤ k ∧ k ≤ 7
  · have := key k.toNat (by omega) j s (by rw [show ((k.toNat : Nat) : Int) = k by omega]; exact hs)
    exact this
  · have : specAll k = [] := by
      unfold specAll
      rw [if_neg (by omega), if_neg (by omega), if_neg (by omega), if_neg (by omega), if_neg (by omega), if_neg (by omega), if_neg (by omega)]
    rw [this] at hs
    simp at hs

/-- A row of the call's own grows, which may be none yet; another one stays. -/
theorem grow_one {w wr w2 : World} {e1 e2 : TypeId} {sz1 sz2 n1 n2 g H : Nat} {xs1 xs2 : List Value} {u v : Value} {o : Obj} (hb : Below w.heap.size w wr) (h1 : wr.ownsRow w.heap.size e1 sz1 u n1 xs1) (h2 : wr.ownsRow w.heap.size e2 sz2 v n2 xs2)
    (hne : v.ownBlock = none ∨ v.ownBlock ≠ u.ownBlock) (hgrow : (wr.alloc o).grownBy w2 u.ownBlock) (hat : u.ownBlock = some g ∨ g = H) (hH : H = wr.heap.size + 1) :
    w2.ownsRow w.heap.size e2 sz2 v n2 xs2 ∧ (v.ownBlock = none ∨ v.ownBlock ≠ some g) ∧ Below w.heap.size w w2 := by
  have hsz := hb.size
  refine ⟨(h2.alloc o).kept hgrow hne, ?_, (hb.alloc hsz _).grown hgrow (by simp; omega) (fun k hk => (h1.lt k hk).1)⟩
  rcases hat with h | h
  · rw [← h]; exact hne
  · right
    intro e
    have := (h2.lt g e).2
    omega

set_option maxHeartbeats 8000000 in
set_option maxRecDepth 100000 in
theorem specs_rec (k v : Int) (w : World) (k0 : -9223372036854775808 ≤ k) (k1 : k ≤ 9223372036854775807) (v0 : -9223372036854775808 ≤ v) (v1 : v ≤ 9223372036854775807) : Calls Try.prog 64 #[.int .i64 k, .int .i64 v] w (NewSpecs w (specs k v)) := by
  obtain ⟨i0, hi, hz0, hz1, hz2⟩ := info_parts spec_info
  by_cases hv : 1 ≤ v ∧ v ≤ 3
  · obtain ⟨v2, v3⟩ := hv
    have hlen := Fo.specAll_len k
    have hall := fun s hs => Fo.specAll_mem k s hs
    have hnum := specAll_num k
    have hinv : ∀ s : Spc, inv v s = decide (s.since ≤ v) := fun s => by unfold inv; rw [decide_eq_true v2, decide_eq_true v3]; rfl
    have hsp : specs k v = (specAll k).filter (inv v) := rfl
    have hca := fun w' => fields_any k w' k0 k1
    have hba : bare k = (specAll k).map unnum := rfl
    obtain ⟨L, hL⟩ : ∃ L, specAll k = L := ⟨_, rfl⟩
    rw [hL] at hlen hall hsp hba hnum
    rw [hba] at hca
    rw [hsp]
    have HCA := Lib.hid hca
    have HALL := Lib.hid hall
    have HNUM := Lib.hid hnum
    have HINV := Lib.hid hinv
    clear hca hL hsp hall hnum hinv hba
    go_enter Try.func64, Try.ntmps64
    go_wp2_with fail
    refine (HCA.out w).mono ?_
    rintro e w1 ⟨A, n, c, rfl, hnc, hmax, hn, hown, hb1⟩
    rw [List.length_map] at hn
    have HO := Lib.hid hown
    have HN := Lib.hid hn
    have hn10 : n ≤ 10 := by omega
    clear hown hn HCA
    go_wp2
    go_loopw [5, 17] (fun o i wr => ∃ (j m : Nat) (F : List Spc), j ≤ n ∧ i = .int .i64 (j : Int) ∧ m ≤ j ∧ wr.ownsRow w.heap.size 93 5 o m (rowc scells F) ∧ F.length = m ∧ (L.take j).filter (inv v) = F ∧
        wr.ownsRow w.heap.size 93 5 (.slice A n c) n (rowc scells (L.map unnum)) ∧ ((Value.slice A n c).ownBlock = none ∨ (Value.slice A n c).ownBlock ≠ o.ownBlock) ∧ Below w.heap.size w wr) (fun _ i _ => n - (intOf i).toNat)
    case atStart => exact ⟨0, 0, [], Nat.zero_le _, rfl, Nat.le_refl _, World.ownsRow_nil _ _ _ _, rfl, rfl, HO.out, by cases A <;> simp [Value.ownBlock], hb1⟩
    case round =>
      obtain ⟨j, m, F, hj, rfl, hmj, hown, hF, hfl, hsrc, hne, hb⟩ := hrel
      have HOW := Lib.hid hown
      have HF := Lib.hid hF
      have HFL := Lib.hid hfl
      have HSR := Lib.hid hsrc
      have HNE := Lib.hid hne
      have hsz := hb.size
      clear hown hF hfl hsrc hne
      by_cases hlt : j < n
      · obtain ⟨ad, s', hA, hab, hs', c0, c1, c2, c3, c4⟩ := spec_at (l := L.map unnum) ⟨by rw [List.length_map]; exact HN.out, Rd.of_own HSR.out⟩ hlt
        subst hA
        obtain ⟨s, hs, rfl⟩ : ∃ s, L[j]? = some s ∧ s' = unnum s := by
          rw [List.getElem?_map] at hs'
          cases hh : L[j]? with
          | none => rw [hh] at hs'; cases hs'
          | some s => rw [hh] at hs'; cases hs'; exact ⟨s, rfl, rfl⟩
        unfold unnum at c0 c1 c2 c3 c4
        simp only [] at c0 c1 c2 c3 c4
        have hsn := HNUM.out j s hs
        have hsi := HALL.out s (List.mem_of_getElem? hs)
        have hsc : scells s = [.int .i64 ((j : Int) + 1), .int .i64 s.wire, .int .i64 s.since, .bool s.need, .bool s.many] := by unfold scells; rw [hsn]
        have htk : L.take (j + 1) = L.take j ++ [s] := by rw [List.take_add_one, hs]; rfl
        have HTK := Lib.hid htk
        have HSC := Lib.hid hsc
        have hiv := HINV.out s
        clear htk hs hs' hsc hsn
        by_cases hsv : s.since ≤ v
        · have HIV := Lib.hid (show inv v s = true by rw [hiv, decide_eq_true hsv])
          clear hiv
          obtain ⟨wb, hwb⟩ : ∃ wb : World, wb = wr.alloc (.cells #[.int .i64 ((j : Int) + 1), .int .i64 s.wire, .int .i64 s.since, .bool s.need, .bool s.many] 93) := ⟨_, rfl⟩
          have hbb : Below w.heap.size w wb := by rw [hwb]; exact hb.alloc hsz _
          have HB1 := Lib.hid (show wb.ownsRow w.heap.size 93 5 u5 m (rowc scells F) by rw [hwb]; exact HOW.out.alloc _)
          have HB2 := Lib.hid (show wb.ownsRow w.heap.size 93 5 (.slice (some ad) n c) n (rowc scells (L.map unnum)) by rw [hwb]; exact HSR.out.alloc _)
          have HWS := Lib.hid (show wb.heap.size + 1 = wb.heap.size + 1 from rfl)
          have HWB := Lib.hid hwb
          clear hwb
          go_upto_region 9 with fail
          rw [← HWB.out]
          have d0 : Blk wb wr.heap.size 93 #[.int .i64 ((j : Int) + 1), .int .i64 s.wire, .int .i64 s.since, .bool s.need, .bool s.many] := by rw [HWB.out]; exact Blk.new _ _ _
          have x0 := d0.cell 0
          have x1 := d0.cell 1
          have x2 := d0.cell 2
          have x3 := d0.cell 3
          have x4 := d0.cell 4
          simp at x0 x1 x2 x3 x4
          clear d0
          go_wp2_with (at_builtin; refine wpList_append_lies _ rfl (.tmp 29) (.tmp 31) 90 rfl w.heap.size 93 i0 (.agg #[.int .i64 0, .int .i64 0, .int .i64 0, .bool false, .bool false]) 5 32 Try.underlying90 hi hz0 hz1 hz2 rfl (by decide) _ m _ rfl (HB1.out.alloc _) ⟨wb.heap.size, 0, none⟩ 1 1 [.int .i64 ((j : Int) + 1), .int .i64 s.wire, .int .i64 s.since, .bool s.need, .bool s.many] rfl rfl (cells_new wb [.int .i64 ((j : Int) + 1), .int .i64 s.wire, .int .i64 s.since, .bool s.need, .bool s.many] 93) (by rw [← HSC.out]; exact scells_one s) (by decide) (by unfold maxLen; omega) (by omega) (by have := hbb.size; simp; omega) (wb.heap.size + 1) (by simp) ?_)
          intro g2 cap w2 hown2 hgrow hat hlt2
          obtain ⟨r1, r2, r3⟩ := grow_one hbb HB1.out HB2.out HNE.out hgrow hat rfl
          have HR2 := Lib.hid hown2
          have R1 := Lib.hid r1
          have R2 := Lib.hid r2
          clear hown2 hgrow hat r1 r2
          go_wp2
          go_roundw
          case rel =>
            refine ⟨j + 1, m + 1, F ++ [s], by omega, by go_num, by omega, ?_, by simp [HF.out], ?_, R1.out, R2.out, r3⟩
            · rw [rowc_app, rowc_one, HSC.out]; exact HR2.out
            · rw [HTK.out, List.filter_append, HFL.out, List.filter_cons, if_pos HIV.out]; rfl
          case measure => simp [intOf]; omega
        · have HIV := Lib.hid (show inv v s = false by rw [hiv, decide_eq_false hsv])
          clear hiv
          go_wp2
          go_roundw
          case rel =>
            refine ⟨j + 1, m, F, by omega, by go_num, by omega, HOW.out.alloc _, HF.out, ?_, HSR.out.alloc _, HNE.out, hb.alloc hsz _⟩
            rw [HTK.out, List.filter_append, HFL.out, List.filter_cons, if_neg (by rw [HIV.out]; decide)]
            simp
          case measure => simp [intOf]; omega
      · obtain rfl : j = n := by omega
        have hfl := HFL.out
        rw [List.take_of_length_le (by have := HN.out; omega)] at hfl
        obtain ⟨A', c', hv', hx1, hx2⟩ := slice_of_own HOW.out
        have hown := HOW.out
        rw [hv'] at hown
        have hres : NewSpecs w (L.filter (inv v)) (.returned u5) wr := ⟨A', m, c', by rw [hv'], hx1, hx2, by rw [hfl]; exact HF.out, by rw [hfl]; exact hown, hb⟩
        have HRES := Lib.hid hres
        clear hfl hv' hown hres
        go_wp2
        go_ret
        exact HRES.out
  · have hsp : specs k v = [] := by
      unfold specs
      rw [List.filter_eq_nil_iff]
      intro s _
      unfold inv
      by_cases h1 : 1 ≤ v
      · rw [decide_eq_false (show ¬ v ≤ 3 from fun h => hv ⟨h1, h⟩)]; simp
      · rw [decide_eq_false h1]; simp
    rw [hsp]
    by_cases h1 : v < 1
    · clear hsp hv
      go_enter Try.func64, Try.ntmps64
      go_wp2
      go_ret
      exact ⟨none, 0, 0, rfl, Nat.le_refl _, by omega, rfl, World.ownsRow_nil _ _ _ _, Below.refl _ _⟩
    · have h2 : 3 < v := by omega
      clear hsp hv
      go_enter Try.func64, Try.ntmps64
      go_wp2
      go_ret
      exact ⟨none, 0, 0, rfl, Nat.le_refl _, by omega, rfl, World.ownsRow_nil _ _ _ _, Below.refl _ _⟩

set_option maxHeartbeats 4000000 in
set_option maxRecDepth 100000 in
theorem top_rec (k v : Int) (w : World) (k0 : -9223372036854775808 ≤ k) (k1 : k ≤ 9223372036854775807) (v0 : -9223372036854775808 ≤ v) (v1 : v ≤ 9223372036854775807) : Calls Try.prog 47 #[.int .i64 k, .int .i64 v] w fun e w' => e = .returned (.int .i64 (top k v)) ∧ Below w.heap.size w w' := by
  have hca := specs_rec k v w k0 k1 v0 v1
  have hmem := fun s (hs : s ∈ specs k v) => Fo.specs_mem hs
  have htop : top k v = (specs k v).foldl (fun t s => max t s.num) 0 := rfl
  have hlen := Fo.specs_len k v
  obtain ⟨l, hl⟩ : ∃ l, specs k v = l := ⟨_, rfl⟩
  rw [hl] at hca htop hlen
  simp only [hl] at hmem
  rw [htop]
  have HCA := Lib.hid hca
  have HME := Lib.hid hmem
  clear hca hl htop hmem
  go_enter Try.func47, Try.ntmps47
  go_wp2_with fail
  refine HCA.out.mono ?_
  rintro e w1 ⟨A, n, c, rfl, hnc, hmax, hn, hown, hb1⟩
  have HR := Lib.hid (specs_get hown hn)
  have HN := Lib.hid hn
  clear hown hn HCA
  go_wp2
  go_loopw [5, 12] (fun x i wr => ∃ (j : Nat) (t : Int), j ≤ n ∧ i = .int .i64 (j : Int) ∧ x = .int .i64 t ∧ (l.take j).foldl (fun t s => max t s.num) 0 = t ∧ 0 ≤ t ∧ t ≤ 10 ∧ Below w1.heap.size w1 wr) (fun _ i _ => n - (intOf i).toNat)
  case atStart => exact ⟨0, 0, Nat.zero_le _, rfl, rfl, rfl, by omega, by omega, Below.refl _ _⟩
  case round =>
    obtain ⟨j, t, hj, rfl, rfl, ht, ht0, ht1, hb⟩ := hrel
    have HT := Lib.hid ht
    clear ht
    by_cases hlt : j < n
    · obtain ⟨ad, s, hA, hab, hs, c0, c1, c2, c3, c4⟩ := spec_at (HR.out.below hb) hlt
      subst hA
      have hsm := HME.out s (List.mem_of_getElem? hs)
      have hstep : (l.take (j + 1)).foldl (fun t s => max t s.num) 0 = max t s.num := by
        rw [List.take_add_one, hs, List.foldl_append, HT.out]; rfl
      have HS := Lib.hid hstep
      clear hstep hs
      go_wp2
      all_goals
        go_roundw
        case rel =>
          refine ⟨j + 1, max t s.num, by omega, by go_num, ?_, HS.out, by omega, by omega, hb.alloc hb.size _⟩
          first | rfl | (congr 1; omega)
        case measure => simp [intOf]; omega
    · obtain rfl : j = n := by omega
      have hfl := HT.out
      rw [List.take_of_length_le (by have := HN.out; omega)] at hfl
      have HFE := Lib.hid hfl
      clear hfl
      go_wp2
      go_ret
      exact ⟨by rw [HFE.out]; rfl, hb1.trans (hb.mono hb1.size)⟩

set_option maxHeartbeats 8000000 in
set_option maxRecDepth 100000 in
theorem check_rec (k v : Int) (A : Option Addr) (n c : Nat) (l : List Fel) (S : List (Option Addr × Nat)) (w : World) (k0 : -9223372036854775808 ≤ k) (k1 : k ≤ 9223372036854775807) (v0 : -9223372036854775808 ≤ v) (v1 : v ≤ 9223372036854775807)
    (h : RdF w w.heap.size A n l S) (hnc : n ≤ c) (hmax : c ≤ 9223372036854775807) (hn : n ≤ 20000) (hw : ∀ f ∈ l, Fok f) :
    Calls Try.prog 55 #[.int .i64 k, .int .i64 v, .slice A n c] w fun e w' => e = .returned (.int .i64 (check k v l : Nat)) ∧ Below w.heap.size w w' := by
  have hsp := specs_rec k v w k0 k1 v0 v1
  have hslen := Fo.specs_len k v
  have hmem := fun s (hs : s ∈ specs k v) => Fo.specs_mem hs
  have hap := Fo.specs_apart k v
  obtain ⟨L, hL⟩ : ∃ L, specs k v = L := ⟨_, rfl⟩
  rw [hL] at hsp hslen hap
  simp only [hL] at hmem
  have HSPC := Lib.hid hsp
  have HL := Lib.hid hL
  have HR := Lib.hid h
  have HN := Lib.hid h.1
  have HW := Lib.hid hw
  have HME := Lib.hid hmem
  have HAP := Lib.hid hap
  obtain ⟨er, her⟩ : ∃ er, may l = er := ⟨_, rfl⟩
  have herr := Tl.may_err l
  rw [her] at herr
  have HER := Lib.hid her
  clear h hw hsp hL her hmem hap
  go_enter Try.func55, Try.ntmps55
  go_wp2_with fail
  refine HSPC.out.mono ?_
  rintro e w1 ⟨A1, m, c1, rfl, hmc, hcmax, hm, hown, hb1⟩
  have HS1 := Lib.hid (specs_get hown hm)
  have HM := Lib.hid hm
  have hs1 := hb1.size
  have hm10 : m ≤ 10 := by omega
  clear hown hm HSPC hslen
  by_cases hm0 : m = 0
  · subst hm0
    have hfin : check k v l = 1 := by
      unfold check
      rw [if_pos (by rw [HL.out]; exact List.eq_nil_of_length_eq_zero HM.out)]
    have HF := Lib.hid hfin
    clear hfin
    go_wp2
    go_ret
    exact ⟨by rw [HF.out]; rfl, hb1⟩
  · have qm : ((m : Int) == 0) = false := by rw [beq_eq_false_iff_ne]; omega
    have hne : L ≠ [] := fun h => by have := HM.out; rw [h] at this; simp at this; omega
    have HNE := Lib.hid hne
    clear hne
    go_wp2_with fail
    refine (may_row A n c l S w1 ((HR.out.below hb1).more hs1) hnc hmax hn HW.out).mono ?_
    rintro e w2 ⟨rfl, hb2⟩
    rw [HER.out]
    have hbw2 := hb1.trans (hb2.mono hs1)
    have HS2 := Lib.hid ((HS1.out.below hb2).more hb2.size)
    clear HS1 hb1 hb2 hs1
    by_cases he0 : er = 0
    · subst he0
      have HFIT := Lib.hid (Fo.may_fit HER.out)
      have hs2 := hbw2.size
      go_wp2_with fail
      refine (count_any A1 m c1 L A n c l S w2 HS2.out hm10 hmc hcmax (fun s hs => ⟨(HME.out s hs).1, (HME.out s hs).2.1, (HME.out s hs).2.2.1⟩) HAP.out ((HR.out.below hbw2).more hs2) hnc hmax hn HW.out HFIT.out).mono ?_
      rintro e w3 (⟨b, nn, rfl, hwb, hmap, hok, hb3⟩ | ⟨rfl, ⟨s, hs, hbad⟩, hb3⟩)
      · have hbw3 := hbw2.trans (hb3.mono hs2)
        have HS3 := Lib.hid ((HS2.out.below hb3).more hb3.size)
        have HMP := Lib.hid hmap
        have HOK := Lib.hid hok
        have hbl := hmap.lt
        clear HS2 hb3 hmap hok
        go_wp2
        go_loopw [34] (fun i wr => ∃ j : Nat, j ≤ m ∧ i = .int .i64 (j : Int) ∧ (∀ s ∈ L.take j, okSpec s l = true) ∧ Below w3.heap.size w3 wr) (fun i _ => m - (intOf i).toNat)
        case atStart => exact ⟨0, Nat.zero_le _, rfl, by simp, Below.refl _ _⟩
        case round =>
          obtain ⟨j, hj, rfl, hpre, hb⟩ := hrel
          have HP := Lib.hid hpre
          have hsz := hb.size
          clear hpre
          by_cases hlt : j < m
          · obtain ⟨ad, s, rfl, hab, hs, c0, c1', c2, c3, c4⟩ := spec_at (HS3.out.below hb) hlt
            have hsm := HME.out s (List.mem_of_getElem? hs)
            have hokS := HOK.out s (List.mem_of_getElem? hs)
            obtain ⟨w5, hw5⟩ : ∃ w5 : World, w5 = wr.alloc (.cells #[.int .i64 s.num, .int .i64 s.wire, .int .i64 s.since, .bool s.need, .bool s.many] 93) := ⟨_, rfl⟩
            obtain ⟨gs, hgs⟩ : ∃ gs, gs = wr.heap.size := ⟨_, rfl⟩
            have hk5 : Blk w5 gs 93 #[.int .i64 s.num, .int .i64 s.wire, .int .i64 s.since, .bool s.need, .bool s.many] := by rw [hw5, hgs]; exact Blk.new _ _ _
            have hb5 : Below wr.heap.size wr w5 := by rw [hw5]; exact (Below.refl _ _).alloc (Nat.le_refl _) _
            have hb35 : Below w3.heap.size w3 w5 := hb.trans (hb5.mono hsz)
            have hlk := ((HMP.out.below hb35 hbl)).look (T := 104) Try.underlying3 Try.underlying104 (zero_int w5) (i := s.num) (by omega) (by omega)
            rw [times_get (by rw [Fo.lookS_apart HAP.out (List.mem_of_getElem? hs)]; rfl)] at hlk
            have HSJ := Lib.hid hs
            have HW5 := Lib.hid hw5
            have HGS := Lib.hid hgs
            have x0 := hk5.cell 0
            have x3 := hk5.cell 3
            simp at x0 x3
            have hcn := Fo.cntN_le l s.num
            have hln := HN.out
            obtain ⟨C, hC⟩ : ∃ C, cntN l s.num = C := ⟨_, rfl⟩
            rw [hC] at hokS hlk hcn
            rw [hln] at hcn
            obtain ⟨D, hD⟩ : ∃ D, okSpec s l = D := ⟨_, rfl⟩
            rw [hD] at hokS
            have HD := Lib.hid hD
            have HOKS := Lib.hid hokS
            clear hs hw5 hgs hk5 hb5 hC hD hokS hln
            go_upto_region 13 with fail
            rw [← HW5.out, ← HGS.out]
            clear c0 c1' c2 c3 c4
            go_cut [46] (fun b wx => b = .bool (!D) ∧ wx = w5)
            case first =>
              obtain ⟨nd, hnd⟩ : ∃ nd, s.need = nd := ⟨_, rfl⟩
              rw [hnd] at x3
              have hv := HOKS.out
              rw [hnd] at hv
              clear hnd
              cases nd with
              | false =>
                obtain rfl : D = true := by rw [hv]; simp
                clear hv
                go_wp2
                go_meet
                case rel => exact ⟨rfl, rfl⟩
              | true =>
                by_cases h0 : C = 0
                · have q1 : ((C : Int) == 0) = true := by rw [h0]; rfl
                  obtain rfl : D = false := by rw [hv, decide_eq_true h0]; rfl
                  clear hv h0
                  go_wp2
                  go_meet
                  case rel => exact ⟨rfl, rfl⟩
                · have q1 : ((C : Int) == 0) = false := by rw [beq_eq_false_iff_ne]; omega
                  obtain rfl : D = true := by rw [hv, decide_eq_false h0]; rfl
                  clear hv h0
                  go_wp2
                  go_meet
                  case rel => exact ⟨rfl, rfl⟩
            case rest =>
              obtain ⟨rfl, hwc⟩ := hcut
              have hwc := hwc.symm
              subst hwc
              cases D with
              | false =>
                have hfin := check_bad HL.out HER.out HSJ.out HD.out
                have HF := Lib.hid hfin
                clear hfin
                go_wp2
                go_ret
                exact ⟨by rw [HF.out]; rfl, hbw3.trans (hb35.mono hbw3.size)⟩
              | true =>
                have HP2 := Lib.hid (show ∀ t ∈ L.take (j + 1), okSpec t l = true by
                  intro t ht
                  rw [List.take_add_one, HSJ.out] at ht
                  rcases List.mem_append.1 ht with h1 | h1
                  · exact HP.out t h1
                  · simp at h1; rw [h1]; exact HD.out)
                go_wp2
                go_roundw
                case rel => exact ⟨j + 1, by omega, by go_num, HP2.out, hb35⟩
                case measure => simp [intOf]; omega
          · obtain rfl : j = m := by omega
            have hp := HP.out
            rw [List.take_of_length_le (by have := HM.out; omega)] at hp
            have hfin := check_ok HL.out HNE.out HER.out hp
            have HF := Lib.hid hfin
            clear hp hfin
            go_wp2
            go_ret
            exact ⟨by rw [HF.out]; rfl, hbw3.trans (hb.mono hbw3.size)⟩
      · obtain ⟨j, hj, rfl⟩ := List.getElem_of_mem hs
        have hfin := check_bad HL.out HER.out (List.getElem?_eq_getElem hj) hbad
        have HF := Lib.hid hfin
        clear hfin hbad
        go_wp2
        go_ret
        exact ⟨by rw [HF.out]; rfl, hbw2.trans (hb3.mono hs2)⟩
    · have q1 : ((er : Int) != 0) = true := by rw [bne_iff_ne]; omega
      have hfin : check k v l = er := by
        unfold check
        rw [HL.out, if_neg HNE.out, HER.out, if_pos he0]
      have HF := Lib.hid hfin
      clear hfin
      go_wp2
      go_ret
      exact ⟨by rw [HF.out]; rfl, hbw2⟩
end Go.Proofs.Ytkagonijkalicaa
