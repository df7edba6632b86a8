/-
  The walk of the law on two rows one behind the other.
-/
import Derived.Test.YtpbhmhagailhfaaTlBackW
import Derived.Test.YtpbhmhagailhfaaTlRTake
import Derived.Laws.Bits64b
namespace Go.Proofs.Ytpbhmhagailhfaa
open Go.RowKit
open Tl (Fel may flat putRow takeRow)

theorem nat_mask (n : Nat) : n &&& 1023 = n % 1024 := Nat.and_two_pow_sub_one_eq_mod n 10
theorem and_1023 (a : Int) : bits .and .i64 a 1023 = a % 1024 := by
  show IntKind.i64.wrap ((BitVec.ofInt 64 a &&& BitVec.ofInt 64 1023).toNat : Int) = _
  have h1 : (BitVec.ofInt 64 a).toNat = (a % 18446744073709551616).toNat := by simp
  have h2 : (BitVec.ofInt 64 1023).toNat = 1023 := rfl
  rw [BitVec.toNat_and, h1, h2, nat_mask, IntKind.wrap_i64]
  omega

/-- What the law makes of a field of the second row. -/
def up (f : Fel) : Fel := { f with num := 501 + f.num % 1024 % 400 }
def upTo (l : List Fel) (j : Nat) : List Fel := (l.take j).map up ++ l.drop j
theorem upTo_all {l : List Fel} {j : Nat} (h : l.length ≤ j) : upTo l j = l.map up := by
  unfold upTo
  rw [List.take_of_length_le h, List.drop_eq_nil_of_le h, List.append_nil]
theorem upTo_get {l : List Fel} {j : Nat} {f : Fel} (h : l[j]? = some f) : (upTo l j)[j]? = some f := by
  have hlt := (List.getElem?_eq_some_iff.1 h).1
  unfold upTo
  rw [List.getElem?_append_right (by simp; omega)]
  simp only [List.length_map, List.length_take, List.getElem?_drop]
  rw [show j + (j - min j l.length) = j by omega, h]
theorem upTo_set {l : List Fel} {j : Nat} {f : Fel} (h : l[j]? = some f) : upTo l (j + 1) = (upTo l j).set j (up f) := by
  have hlt := (List.getElem?_eq_some_iff.1 h).1
  have e : l[j] = f := by rw [List.getElem?_eq_getElem hlt] at h; exact Option.some.inj h
  unfold upTo
  rw [List.take_add_one, h, List.set_append_right _ _ (by simp; omega)]
  have h2 : j - ((l.take j).map up).length = 0 := by simp; omega
  rw [h2, List.drop_eq_getElem_cons hlt, List.set_cons_zero]
  simp
theorem upTo_len (l : List Fel) (j : Nat) : (upTo l j).length = l.length := by unfold upTo; simp; omega
theorem upTo_b {l : List Fel} {j k : Nat} {f : Fel} (h : (upTo l j)[k]? = some f) : ∃ g, l[k]? = some g ∧ f.b = g.b := by
  unfold upTo at h
  by_cases hk : k < ((l.take j).map up).length
  · rw [List.getElem?_append_left hk, List.getElem?_map] at h
    simp only [Option.map_eq_some_iff] at h
    obtain ⟨g, hg, rfl⟩ := h
    rw [List.getElem?_take] at hg
    split at hg
    · exact ⟨g, hg, rfl⟩
    · cases hg
  · rw [List.getElem?_append_right (by omega), List.getElem?_drop] at h
    simp only [List.length_map, List.length_take] at h hk
    rw [show j + (k - min j l.length) = k + (j - min j l.length) by omega] at h
    by_cases hj : j ≤ l.length
    · rw [show k + (j - min j l.length) = k by omega] at h
      exact ⟨f, h, rfl⟩
    · have := (List.getElem?_eq_some_iff.1 h).1
      omega
theorem rcells_set : ∀ (l : List Fel) (S : List (Option Addr × Nat)) (j : Nat) (f : Fel), S.length = l.length → l[j]? = some f → ∀ g : Fel, g.wire = f.wire → g.n = f.n → g.b = f.b →
    rcells (l.set j g) S = (rcells l S).set (j * 4) (.int .i64 g.num)
  | [], _, _, _, _, h, _, _, _, _ => by simp at h
  | a :: l, [], _, _, h0, _, _, _, _, _ => by simp at h0
  | a :: l, s :: S, 0, f, _, h, g, h1, h2, h3 => by
    simp at h
    subst h
    simp [rcells, fcells, h1, h2, h3]
  | a :: l, s :: S, j + 1, f, h0, h, g, h1, h2, h3 => by
    simp at h
    have ih := rcells_set l S j f (by simpa using h0) h g h1 h2 h3
    rw [List.set_cons_succ, rcells, ih, rcells]
    have e : (j + 1) * 4 = j * 4 + 4 := by omega
    rw [e]
    simp [fcells]

theorem rcells_one_cell : ∀ (l : List Fel) (S : List (Option Addr × Nat)), ∀ u ∈ rcells l S, u.oneCell' = true
  | [], _, u, h => by simp [rcells] at h
  | _ :: _, [], u, h => by simp [rcells] at h
  | f :: l, s :: S, u, h => by
    rw [rcells] at h
    rcases List.mem_append.1 h with h | h
    · exact fcells_one f s u h
    · exact rcells_one_cell l S u h
theorem strOf_app (a b : List Nat) : strOf (a ++ b) = strOf a ++ strOf b := by
  unfold strOf
  apply ByteArray.ext
  simp [ByteArray.data_append]
/-- A cell of a row of the call's own is written. -/
theorem own_put {w : World} {base : Nat} {e : TypeId} {size g n c k : Nat} {xs : List Value} (h : w.ownsRow base e size (.slice (some ⟨g, 0, none⟩) n c) n xs) (hk : k < xs.length) (u : Value) :
    (w.setCell ⟨g, k, none⟩ u).ownsRow base e size (.slice (some ⟨g, 0, none⟩) n c) n (xs.set k u) := by
  refine ⟨by rw [List.length_set]; exact h.1, ?_⟩
  rcases h.2 with ⟨hv, _⟩ | ⟨g', cap, cur, hv, hb, hg, h1, h2, h3, h4⟩
  · cases hv
  · cases hv
    refine .inr ⟨g, c, cur.setIfInBounds k u, rfl, hb, ?_, h1, h2, by simpa using h3, ?_⟩
    · simp [World.setCell, Array.getElem?_modify, hg]
    · have hl : k < n * size := by rw [← h.1]; exact hk
      rw [← h4]
      simp [List.take_set]

set_option maxHeartbeats 1500000 in
set_option maxRecDepth 100000 in
theorem joins_any (A : Option Addr) (n c : Nat) (l : List Fel) (S : List (Option Addr × Nat)) (A' : Option Addr) (n' c' : Nat) (l' : List Fel) (S' : List (Option Addr × Nat)) (w : World) (h : RdF w w.heap.size A n l S) (hnc : n ≤ c) (hmax : c ≤ 9223372036854775807) (hw : ∀ f ∈ l, Fin f)
    (h' : RdF w w.heap.size A' n' l' S') (hnc' : n' ≤ c') (hmax' : c' ≤ 9223372036854775807) (hw' : ∀ f ∈ l', Fin f) :
    Calls Try.prog 7 #[.slice A n c, .slice A' n' c'] w fun e w' => e = .returned (.bool true) ∧ Below w.heap.size w w' := by
  obtain ⟨i0, hi, hz0, hz1, hz2⟩ := info_parts byte_info
  obtain ⟨j0, ji, jz0, jz1, jz2⟩ := info_parts field_info
  have HR := Lib.hid h
  have HR' := Lib.hid h'
  have hok := fewL_ok hw
  have hfl := fewL_len l
  obtain ⟨lf, hlf⟩ : ∃ lf, fewL l = lf := ⟨_, rfl⟩
  obtain ⟨m, hm⟩ : ∃ m, lf.length = m := ⟨_, rfl⟩
  have hm60 : m ≤ 60 := by rw [← hm, ← hlf, hfl]; omega
  rw [hlf] at hok
  have HOK := Lib.hid hok
  have hfew := fun w' (h' : RdF w' w'.heap.size A n l S) => few_row A n c l S w' h' hnc hmax m (by rw [hlf]; exact hm)
  rw [hlf] at hfew
  have HFEW := Lib.hid hfew
  have hok' := fewL_ok hw'
  have hfl' := fewL_len l'
  obtain ⟨lg, hlg⟩ : ∃ lg, fewL l' = lg := ⟨_, rfl⟩
  obtain ⟨m', hm'⟩ : ∃ m', lg.length = m' := ⟨_, rfl⟩
  have hm60' : m' ≤ 60 := by rw [← hm', ← hlg, hfl']; omega
  rw [hlg] at hok'
  have HOK' := Lib.hid hok'
  have HM' := Lib.hid hm'
  have HLG := Lib.hid hlg
  have hfew' := fun w' (h'' : RdF w' w'.heap.size A' n' l' S') => few_row A' n' c' l' S' w' h'' hnc' hmax' m' (by rw [hlg]; exact hm')
  rw [hlg] at hfew'
  have HFEW' := Lib.hid hfew'
  obtain ⟨la, hla⟩ : ∃ la, lf.filter (fun f => decide (f.num ≤ 500)) = la := ⟨_, rfl⟩
  have hla2 : ∀ f ∈ la, Fok f ∧ f.num ≤ 500 := fun f hf => by
    rw [← hla, List.mem_filter] at hf
    exact ⟨hok f hf.1, by simpa using hf.2⟩
  have hlal : la.length ≤ m := by rw [← hla, ← hm]; exact List.length_filter_le _ _
  have HLA := Lib.hid hla
  have HLA2 := Lib.hid hla2
  have HLAL := Lib.hid hlal
  clear h h' hfl hlf hm hok hw hfew hfl' hlg hm' hok' hw' hfew' hla hla2 hlal
  go_enter Try.func7, Try.ntmps7
  go_wp2_with fail
  refine (tshown_any w).mono ?_
  rintro e w1 ⟨rfl, hb1⟩
  have hs1 := hb1.size
  go_wp2_with fail
  refine (HFEW.out w1 ((HR.out.below hb1).more hs1)).mono ?_
  rintro e w2 ⟨A2, c2, rfl, hc2, hc22, hr2, _, hb2⟩
  have hbw := hb1.trans (hb2.mono hs1)
  have HR2 := Lib.hid hr2
  clear hr2 hb1 hb2 hs1 HFEW HR
  go_wp2_with fail
  refine (rsplit_any A2 m c2 500 lf (S.take 60) w2 HR2.out hc2 hc22 (by omega)).mono ?_
  rintro e w3 ⟨u3, v3, rfl, hr3, hr3', hb3⟩
  rw [HLA.out] at hr3
  obtain ⟨A3, n3, c3, S3, rfl, hn3, hc3, hr3⟩ := hr3
  obtain ⟨B3, m3, d3, U3, rfl, hm3, hd3, hr3'⟩ := hr3'
  have hn3m : n3 ≤ 60 := by have := hr3.1; have := HLAL.out; omega
  have HR3 := Lib.hid hr3
  replace hbw := hbw.trans (hb3.mono hbw.size)
  clear hb3
  clear hr3 hr3' HLA HLAL HR2 HOK
  have hs3 := hbw.size
  go_wp2_with fail
  refine (HFEW'.out w3 ((HR'.out.below hbw).more hs3)).mono ?_
  rintro e w4 ⟨A4, c4, rfl, hc4, hc42, hr4, hown4, hb4⟩
  obtain ⟨T, hT⟩ : ∃ T, S'.take 60 = T := ⟨_, rfl⟩
  rw [hT] at hr4 hown4
  have hTl : T.length = m' := hr4.2.1
  have hB4 : ∀ (k : Nat) (f : Fel) (s : Option Addr × Nat), lg[k]? = some f → T[k]? = some s → Rd w4 w3.heap.size 1 s.1 f.b.length (bvs f.b) ∧ f.b.length ≤ s.2 ∧ s.2 ≤ 9223372036854775807 := by
    intro k f s hf hs
    rw [← HLG.out] at hf
    rw [← hT] at hs
    exact fewL_rd ((HR'.out.below hbw).more hs3) hb4 k f s hf hs
  have HB4 := Lib.hid hB4
  have HO4 := Lib.hid hown4
  have HTL := Lib.hid hTl
  have HR4 := Lib.hid (HR3.out.below hb4)
  have hbw4 := hbw.trans (hb4.mono hs3)
  have hs34 := hb4.size
  have HOKU := Lib.hid (show ∀ f ∈ lg.map up, Fok f ∧ 500 < f.num by
    intro f hf
    rw [List.mem_map] at hf
    obtain ⟨g, hg, rfl⟩ := hf
    have h1 := HOK'.out g hg
    refine ⟨⟨h1.1, ?_, ?_, h1.2.2.2.1, h1.2.2.2.2.1, h1.2.2.2.2.2⟩, ?_⟩ <;> simp only [up] <;> omega)
  clear hr4 hown4 hT hTl hB4 hb4 hbw HFEW' HR3 HLG HR' HOK'
  go_wp2
  go_loopw [7] (fun i wr => ∃ j : Nat, j ≤ m' ∧ i = .int .i64 (j : Int) ∧ wr.ownsRow w3.heap.size 39 4 (.slice A4 m' c4) m' (rcells (upTo lg j) T) ∧ Below w3.heap.size w4 wr) (fun i _ => m' - (intOf i).toNat)
  case atStart =>
    refine ⟨0, Nat.zero_le _, rfl, ?_, Below.refl _ _⟩
    have e : upTo lg 0 = lg := by simp [upTo]
    rw [e]
    exact HO4.out
  case round =>
    obtain ⟨j, hj, rfl, hown, hb⟩ := hrel
    have HO := Lib.hid hown
    have hsz := hb.size
    clear hown
    by_cases hlt : j < m'
    · obtain ⟨g, cap, hv, hbg, hgl⟩ := HO.out.form (by omega)
      cases hv
      obtain ⟨f', s, hf', hs', k0, k1, k2, k3⟩ := own_field HO.out (by rw [upTo_len]; exact HM'.out) HTL.out hlt
      obtain ⟨f, hf⟩ : ∃ f, lg[j]? = some f := ⟨lg[j]'(by have := HM'.out; omega), by simp⟩
      obtain rfl : f = f' := by rw [upTo_get hf] at hf'; exact Option.some.inj hf'
      have hfz : wr.frozen? ⟨g, j * 4, none⟩ = false := by
        rcases HO.out.2 with ⟨h0, _⟩ | ⟨g', cap', cur, hv, _, hgg, _⟩
        · cases h0
        · cases hv
          exact Blk.frozen (t := 39) hgg _
      have hput := own_put HO.out (k := j * 4) (by rw [rcells_len _ _ (by rw [upTo_len, HTL.out, HM'.out]), upTo_len, HM'.out]; omega) (.int .i64 (501 + f.num % 1024 % 400))
      have hset : (rcells (upTo lg j) T).set (j * 4) (.int .i64 (501 + f.num % 1024 % 400)) = rcells (upTo lg (j + 1)) T := by
        rw [upTo_set hf]
        exact (rcells_set (upTo lg j) T j f (by rw [upTo_len, HTL.out, HM'.out]) (upTo_get hf) (up f) rfl rfl rfl).symm
      rw [hset] at hput
      have HPUT := Lib.hid hput
      have m1 := and_1023 f.num
      have m2 : 0 ≤ f.num % 1024 ∧ f.num % 1024 < 1024 := by omega
      clear hput hset hf hf' hs'
      go_wp2
      go_roundw
      case rel => exact ⟨j + 1, by omega, by go_num, HPUT.out, hb.setCell hbg _⟩
      case measure => simp [intOf]; omega
    · obtain rfl : j = m' := by omega
      have hup : upTo lg j = lg.map up := upTo_all (by have := HM'.out; omega)
      have hown := HO.out
      rw [hup] at hown
      obtain ⟨lu, hlu⟩ : ∃ lu, lg.map up = lu := ⟨_, rfl⟩
      have hoku := HOKU.out
      rw [hlu] at hown hoku
      have hlul : lu.length = j := by rw [← hlu, List.length_map]; exact HM'.out
      have hbyt : ∀ (k : Nat) (f : Fel) (s : Option Addr × Nat), lu[k]? = some f → T[k]? = some s → Rd wr w3.heap.size 1 s.1 f.b.length (bvs f.b) ∧ f.b.length ≤ s.2 ∧ s.2 ≤ 9223372036854775807 := by
        intro k f s hf hs
        rw [← hlu, ← hup] at hf
        obtain ⟨g, hg, hgb⟩ := upTo_b hf
        obtain ⟨h1, h2, h3⟩ := HB4.out k g s hg hs
        rw [hgb]
        exact ⟨h1.below hb, h2, h3⟩
      have hs3r : w3.heap.size ≤ wr.heap.size := by omega
      obtain ⟨Au, cu, hve, hcu, hcu2, hru⟩ := RdF.of_own hown hlul HTL.out hs3r hbyt
      cases hve
      have HRU := Lib.hid hru
      have HRA := Lib.hid ((HR4.out.below hb).more hs3r)
      have HOU := Lib.hid hoku
      have hbwr := hbw4.trans (hb.mono (by omega))
      have hsw := hbwr.size
      have HOA := Lib.hid (fun f hf => (HLA2.out f hf).1)
      have HOV := Lib.hid (fun f hf => (HOU.out f hf).1)
      obtain ⟨xa, hxa⟩ : ∃ xa, (putRow la).1 = xa := ⟨_, rfl⟩
      obtain ⟨ea, hea⟩ : ∃ ea, (putRow la).2 = ea := ⟨_, rfl⟩
      obtain ⟨na, hna⟩ : ∃ na, xa.length = na := ⟨_, rfl⟩
      obtain ⟨xu, hxu⟩ : ∃ xu, (putRow lu).1 = xu := ⟨_, rfl⟩
      obtain ⟨eu, heu⟩ : ∃ eu, (putRow lu).2 = eu := ⟨_, rfl⟩
      obtain ⟨nu, hnu⟩ : ∃ nu, xu.length = nu := ⟨_, rfl⟩
      have hma : ea = may la ∧ (may la = 0 → xa = flat la) ∧ na ≤ 16384 := by
        rw [← hna, ← hea, ← hxa]
        by_cases h0 : may la = 0
        · have := put_ok h0
          have h2 := (Tl.may_zero.1 h0).2
          rw [this]
          exact ⟨h0.symm, fun _ => rfl, h2⟩
        · unfold putRow
          rw [if_pos h0]
          exact ⟨rfl, fun h => absurd h h0, by simp⟩
      have hmu : eu = may lu ∧ (may lu = 0 → xu = flat lu) ∧ nu ≤ 16384 := by
        rw [← hnu, ← heu, ← hxu]
        by_cases h0 : may lu = 0
        · have := put_ok h0
          have h2 := (Tl.may_zero.1 h0).2
          rw [this]
          exact ⟨h0.symm, fun _ => rfl, h2⟩
        · unfold putRow
          rw [if_pos h0]
          exact ⟨rfl, fun h => absurd h h0, by simp⟩
      have hna16 := hma.2.2
      have hnu16 := hmu.2.2
      have hea5 : ea ≤ 5 := by rw [hma.1]; have := Tl.may_err la; omega
      have heu5 : eu ≤ 5 := by rw [hmu.1]; have := Tl.may_err lu; omega
      have HMA := Lib.hid hma
      have HMU := Lib.hid hmu
      have HXA := Lib.hid hxa
      have HEA := Lib.hid hea
      have HNA := Lib.hid hna
      have HXU := Lib.hid hxu
      have HEU := Lib.hid heu
      have HNU := Lib.hid hnu
      have HLUL := Lib.hid hlul
      clear hma hmu hxa hea hna hxu heu hnu hru hoku hown hup hlu hbyt hlul HO HO4 HB4 HR4 HM' HOKU hbw4
      go_wp2_with fail
      refine (put_row A3 n3 c3 la S3 wr HRA.out hn3 hc3 (by omega) HOA.out).mono ?_
      rintro e w5 ⟨v5, rfl, hown5, hb5⟩
      rw [HXA.out] at hown5
      rw [HNA.out] at hown5
      rw [HEA.out]
      obtain ⟨A5, c5, rfl, hc5, hc52⟩ := slice_of_own hown5
      have HX5 := Lib.hid (Rd.of_own hown5)
      have hbw5 := hbwr.trans (hb5.mono hsw)
      replace HRA := Lib.hid ((HRA.out.below hb5).more hb5.size)
      replace HRU := Lib.hid ((HRU.out.below hb5).more hb5.size)
      have hs5 := hbw5.size
      clear hown5 hb5
      go_wp2_with fail
      refine (put_row A4 j c4 lu T w5 HRU.out hcu hcu2 (by omega) HOV.out).mono ?_
      rintro e w6 ⟨v6, rfl, hown6, hb6⟩
      rw [HXU.out] at hown6
      rw [HNU.out] at hown6
      rw [HEU.out]
      obtain ⟨A6, c6, rfl, hc6, hc62⟩ := slice_of_own hown6
      have HX6 := Lib.hid (Rd.of_own hown6)
      have hbw6 := hbw5.trans (hb6.mono hs5)
      replace HRA := Lib.hid ((HRA.out.below hb6).more hb6.size)
      replace HRU := Lib.hid ((HRU.out.below hb6).more hb6.size)
      replace HX5 := Lib.hid ((HX5.out.below hb6).more hb6.size)
      have hs6 := hbw6.size
      clear hown6 hb6
      by_cases ha0 : ea = 0
      · by_cases hu0 : eu = 0
        · by_cases hbig : 16384 < na + nu
          · subst ha0 hu0
            have hbg : (16384 : Int) < (na : Int) + (nu : Int) := by omega
            go_wp2
            go_ret
            exact ⟨rfl, hbw6⟩
          · have hla0 : may la = 0 := by rw [← HMA.out.1, ha0]
            have hlu0 : may lu = 0 := by rw [← HMU.out.1, hu0]
            have hxa := HMA.out.2.1 hla0
            have hxu := HMU.out.2.1 hlu0
            obtain ⟨hj0, hjf⟩ := Tl.may_join 500 hla0 (fun f hf => (HLA2.out f hf).2) hlu0 (fun f hf => (HOU.out f hf).2) (by rw [← hxa, ← hxu, HNA.out, HNU.out]; omega)
            rw [← hxa, ← hxu] at hjf
            have hpb := put_ok hj0
            rw [hjf] at hpb
            have hokb : ∀ f ∈ la ++ lu, Fok f := fun f hf => (List.mem_append.1 hf).elim (HOA.out f) (HOV.out f)
            have htk := (Tl.takeRow_put (fun f hf => (hokb f hf).1) hj0).1
            rw [hjf] at htk
            have hby : ∀ c ∈ xa ++ xu, c < 256 := by rw [← hjf]; exact flat_byte hokb
            have hll : (la ++ lu).length = n3 + j := by rw [List.length_append, HRA.out.1, HLUL.out]
            have hSl : (S3 ++ T).length = n3 + j := by rw [List.length_append, HRA.out.2.1, HTL.out]
            have hcat : rcells la S3 ++ rcells lu T = rcells (la ++ lu) (S3 ++ T) := (rcells_app _ _ _ _ (by rw [HRA.out.1, HRA.out.2.1])).symm
            have hbyt : ∀ (k : Nat) (f : Fel) (s : Option Addr × Nat), (la ++ lu)[k]? = some f → (S3 ++ T)[k]? = some s → Rd w6 w6.heap.size 1 s.1 f.b.length (bvs f.b) ∧ f.b.length ≤ s.2 ∧ s.2 ≤ 9223372036854775807 := by
              intro k f s hf hs
              have e1 := HRA.out.1
              have e2 := HRA.out.2.1
              by_cases hk : k < n3
              · rw [List.getElem?_append_left (by omega)] at hf hs
                exact HRA.out.2.2.2 k f s hf hs
              · rw [List.getElem?_append_right (by omega), e1] at hf
                rw [List.getElem?_append_right (by omega), e2] at hs
                exact HRU.out.2.2.2 _ f s hf hs
            obtain ⟨lj, hlj⟩ : ∃ lj, la ++ lu = lj := ⟨_, rfl⟩
            obtain ⟨Sj, hSj⟩ : ∃ Sj, S3 ++ T = Sj := ⟨_, rfl⟩
            obtain ⟨xj, hxj⟩ : ∃ xj, xa ++ xu = xj := ⟨_, rfl⟩
            have hxjl : xj.length = na + nu := by rw [← hxj, List.length_append, HNA.out, HNU.out]
            rw [hlj] at hpb hokb htk hll hcat hbyt
            rw [hSj] at hSl hcat hbyt
            rw [hxj] at hpb htk hby
            have hone1 : ∀ (l : List Fel) (S : List (Option Addr × Nat)), ∀ u ∈ rcells l S, u.oneCell' = true := fun l S => rcells_one_cell l S
            have hra := HRA.out.2.2.1
            have hru := HRU.out.2.2.1
            have HRA2 := Lib.hid hra
            have HRU2 := Lib.hid hru
            have HPB := Lib.hid hpb
            have HOKB := Lib.hid hokb
            have HTK := Lib.hid htk
            have HBY := Lib.hid hby
            have HLL := Lib.hid hll
            have HSL := Lib.hid hSl
            have HCAT := Lib.hid hcat
            have HBYT := Lib.hid hbyt
            have HXJ := Lib.hid hxj
            have HXJL := Lib.hid hxjl
            have HONE := Lib.hid hone1
            subst ha0 hu0
            clear hla0 hlu0 hxa hxu hj0 hjf hpb hokb htk hby hll hSl hcat hbyt hlj hSj hxj hxjl hone1 hra hru HRA HRU HMA HMU HXA HEA HXU HEU HLA2 HOU
            have hnb : ¬ (16384 : Int) < (na : Int) + (nu : Int) := by omega
            go_wp2_with (at_builtin; refine wpList_append_rd _ rfl (.tmp 70) (.tmp 71) 22 rfl w6.heap.size 39 j0 (.agg #[.int .i64 0, .int .i64 0, .int .u64 0, .slice none 0 0]) 4 48 Try.underlying22 ji jz0 jz1 jz2 rfl (by decide) _ 0 [] rfl (World.ownsRow_made (e := 39) w6 #[] 0 (Nat.le_refl _) (by unfold maxLen; omega) rfl) w6.heap.size A3 n3 c3 (rcells la S3) rfl (HRA2.out.alloc (Nat.le_refl _) _) (HONE.out _ _) (by unfold maxLen; omega) (by omega) (by simp) ?_)
            intro v7 w7 hown7 hg7
            have hb7 : Below w6.heap.size w6 w7 := ((Below.refl _ _).alloc (Nat.le_refl _) _).grown hg7 (by simp) (fun k hk => by simp [Value.ownBlock] at hk; omega)
            have hs7 := hb7.size
            have HRU7 := Lib.hid (HRU2.out.below hb7)
            have HO7 := Lib.hid hown7
            clear hown7 hg7
            go_wp2_with (at_builtin; refine wpList_append_rd _ rfl (.tmp 72) (.tmp 73) 22 rfl w6.heap.size 39 j0 (.agg #[.int .i64 0, .int .i64 0, .int .u64 0, .slice none 0 0]) 4 48 Try.underlying22 ji jz0 jz1 jz2 rfl (by decide) _ n3 _ rfl HO7.out w6.heap.size A4 j c4 (rcells lu T) rfl HRU7.out (HONE.out _ _) (by unfold maxLen; omega) (by omega) hs7 ?_)
            intro v8 w8 hown8 hg8
            have hb8 : Below w6.heap.size w6 w8 := hb7.grown hg8 hs7 (fun k hk => (HO7.out.lt k hk).1)
            rw [HCAT.out] at hown8
            have hs8 := hb8.size
            obtain ⟨A8, c8, rfl, hc8, hc82, hr8⟩ := RdF.of_own hown8 HLL.out HSL.out hs8 (fun k f s hf hs => ⟨(HBYT.out k f s hf hs).1.below hb8, (HBYT.out k f s hf hs).2⟩)
            have HR8 := Lib.hid hr8
            have hbw8 := hbw6.trans (hb8.mono hs6)
            replace HX5 := Lib.hid ((HX5.out.below hb8).more hb8.size)
            replace HX6 := Lib.hid ((HX6.out.below hb8).more hb8.size)
            have hsw8 := hbw8.size
            clear hown8 hg8 hr8 hb8 HO7 HRU7 HRA2 HRU2 hb7 hs7 hs8 HCAT HBYT HLL HSL
            go_wp2_with fail
            refine (put_row A8 _ c8 lj Sj w8 HR8.out hc8 hc82 (by omega) HOKB.out).mono ?_
            rintro e w9 ⟨v9, rfl, hown9, hb9⟩
            rw [HPB.out] at hown9 ⊢
            replace hown9 : w9.ownsRow w8.heap.size 5 1 v9 (na + nu) (bvs xj) := by have h1 := hown9; simp only [HXJL.out] at h1; exact h1
            obtain ⟨A9, c9, rfl, hc9, hc92⟩ := slice_of_own hown9
            have HX9 := Lib.hid (Rd.of_own hown9)
            have hbw9 := hbw8.trans (hb9.mono hsw8)
            replace HR8 := Lib.hid ((HR8.out.below hb9).more hb9.size)
            replace HX5 := Lib.hid ((HX5.out.below hb9).more hb9.size)
            replace HX6 := Lib.hid ((HX6.out.below hb9).more hb9.size)
            have hsw9 := hbw9.size
            clear hown9 hb9 HPB
            go_wp2_with (at_builtin; refine wpList_append_rd _ rfl (.tmp 81) (.tmp 82) 23 rfl w9.heap.size 5 i0 (.int .u8 0) 1 1 Try.underlying23 hi hz0 hz1 hz2 rfl (by decide) _ 0 [] rfl (World.ownsRow_made (e := 5) w9 #[] 0 (Nat.le_refl _) (by unfold maxLen; omega) rfl) w9.heap.size A5 na c5 (bvs xa) rfl (HX5.out.alloc (Nat.le_refl _) _) (bvs_one _) (by unfold maxLen; omega) (by omega) (by simp) ?_)
            intro v10 w10 hown10 hg10
            have hb10 : Below w9.heap.size w9 w10 := ((Below.refl _ _).alloc (Nat.le_refl _) _).grown hg10 (by simp) (fun k hk => by simp [Value.ownBlock] at hk; omega)
            have hs10 := hb10.size
            have HY10 := Lib.hid (HX6.out.below hb10)
            have HO10 := Lib.hid hown10
            clear hown10 hg10
            go_wp2_with (at_builtin; refine wpList_append_rd _ rfl (.tmp 83) (.tmp 84) 23 rfl w9.heap.size 5 i0 (.int .u8 0) 1 1 Try.underlying23 hi hz0 hz1 hz2 rfl (by decide) _ na (bvs xa) rfl HO10.out w9.heap.size A6 nu c6 (bvs xu) rfl HY10.out (bvs_one _) (by unfold maxLen; omega) (by omega) hs10 ?_)
            intro v11 w11 hown11 hg11
            have hb11 : Below w9.heap.size w9 w11 := hb10.grown hg11 hs10 (fun k hk => (HO10.out.lt k hk).1)
            rw [← bvs_app, HXJ.out] at hown11
            obtain ⟨A11, c11, rfl, hc11, hc112⟩ := slice_of_own hown11
            have HX11 := Lib.hid (Rd.of_own hown11)
            have hbw11 := hbw9.trans (hb11.mono hsw9)
            replace HR8 := Lib.hid ((HR8.out.below hb11).more hb11.size)
            replace HX5 := Lib.hid ((HX5.out.below hb11).more hb11.size)
            replace HX6 := Lib.hid ((HX6.out.below hb11).more hb11.size)
            replace HX9 := Lib.hid ((HX9.out.below hb11).more hb11.size)
            have hsw11 := hbw11.size
            clear hown11 hg11 hb11 hb10 hs10 HY10 HO10
            go_wp2_with fail
            refine (take_row A11 (na + nu) c11 xj w11 HBY.out HX11.out hc11 hc112).mono ?_
            rintro e w12 ⟨v12, rfl, hr12, hb12⟩
            rw [HTK.out] at hr12 ⊢
            obtain ⟨A12, n12, c12, S12, rfl, hn12, hc12, hr12⟩ := hr12
            have HR12 := Lib.hid hr12
            have hbw12 := hbw11.trans (hb12.mono hsw11)
            replace HR8 := Lib.hid ((HR8.out.below hb12).more hb12.size)
            replace HX5 := Lib.hid ((HX5.out.below hb12).more hb12.size)
            replace HX6 := Lib.hid ((HX6.out.below hb12).more hb12.size)
            replace HX9 := Lib.hid ((HX9.out.below hb12).more hb12.size)
            have hsw12 := hbw12.size
            clear hr12 hb12 HX11 HTK
            go_wp2_with fail
            refine (same_any A12 A8 n12 _ c12 c8 w12.heap.size lj lj S12 Sj w12 HR12.out HR8.out hn12 hc12 hc8 hc82 (fun f hf => (HOKB.out f hf).1) (fun f hf => (HOKB.out f hf).1)).mono ?_
            rintro e w13 ⟨d, rfl, hd, hb13⟩
            obtain rfl : d = true := hd.2 rfl
            have hbw13 := hbw12.trans (hb13.mono hsw12)
            have s1 := run_str (P := Try.prog) w13 23 9 5 Try.underlying23 Try.underlying5 Try.underlying9 ((HX9.out.below hb13).more hb13.size) c9
            have s2 := run_str (P := Try.prog) w13 23 9 5 Try.underlying23 Try.underlying5 Try.underlying9 ((HX5.out.below hb13).more hb13.size) c5
            have s3 := run_str (P := Try.prog) w13 23 9 5 Try.underlying23 Try.underlying5 Try.underlying9 ((HX6.out.below hb13).more hb13.size) c6
            have s4 : strOf xa ++ strOf xu = strOf xj := by rw [← HXJ.out, strOf_app]
            have s5 : (strOf xa).size = na := by rw [strOf_size, HNA.out]
            have s6 : (strOf xu).size = nu := by rw [strOf_size, HNU.out]
            clear hd hb13 HR8 HR12
            go_wp2
            go_ret
            exact ⟨rfl, hbw13⟩
        · subst ha0
          have q : ((eu : Int) != 0) = true := by rw [bne_iff_ne]; omega
          go_wp2
          go_ret
          exact ⟨rfl, hbw6⟩
      · have q : ((ea : Int) != 0) = true := by rw [bne_iff_ne]; omega
        go_wp2
        go_ret
        exact ⟨rfl, hbw6⟩
end Go.Proofs.Ytpbhmhagailhfaa
