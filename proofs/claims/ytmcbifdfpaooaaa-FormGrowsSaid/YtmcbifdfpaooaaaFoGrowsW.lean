/-
  The walk of the law FormGrows.
-/
import Derived.Test.YtmcbifdfpaooaaaFoShown
namespace Go.Proofs.Ytmcbifdfpaooaaa
open Go.RowKit
open Fo (Spc specAll specs inv top check)

theorem and_15 (a : Int) (h0 : 0 ≤ a) (h1 : a ≤ 255) : bits .and .u8 a 15 = a % 16 := by
  show IntKind.u8.wrap ((BitVec.ofInt 8 a &&& BitVec.ofInt 8 15).toNat : Int) = _
  have e1 : (BitVec.ofInt 8 a).toNat = (a % 256).toNat := by simp
  have e2 : (BitVec.ofInt 8 15).toNat = 15 := rfl
  have e3 : ∀ n : Nat, n &&& 15 = n % 16 := fun n => Nat.and_two_pow_sub_one_eq_mod n 4
  have e4 : ∀ n : Int, IntKind.u8.wrap n = n % 256 := fun n => by simp [IntKind.wrap, IntKind.bits, IntKind.signed]
  rw [BitVec.toNat_and, e1, e2, e3, e4]
  omega

def goodG (k v : Int) : Bool :=
  (decide (1 ≤ k ∧ k ≤ 7) == decide (0 < (specs k v).length)) && decide (top k v = ((specs k v).length : Int)) && decide ((specs k (v - 1)).length ≤ (specs k v).length) &&
  (List.range 10).all fun i => match (specs k v)[i]? with
    | none => true
    | some s => decide (s.num = (i : Int) + 1) && decide (1 ≤ s.since) && decide (s.since ≤ v) && !(decide (1 < s.since) && s.need) &&
      (decide (v = 1) || match (specs k (v - 1))[i]? with
        | none => decide (s.since = v)
        | some t => decide (s = t))
theorem goodG_all : ∀ k : Nat, k < 16 → ∀ v : Nat, v < 3 → goodG (k : Int) (1 + (v : Int)) = true := by decide +kernel
theorem goodG_none : ∀ k : Nat, k < 16 → specs (k : Int) 0 = [] ∧ specs (k : Int) 4 = [] := by decide +kernel
theorem goodG_at {k v : Int} (h : goodG k v = true) {i : Nat} {s : Spc} (hs : (specs k v)[i]? = some s) : s.num = (i : Int) + 1 ∧ 1 ≤ s.since ∧ s.since ≤ v ∧ ¬ (1 < s.since ∧ s.need = true) ∧
    (v = 1 ∨ ((specs k (v - 1))[i]? = none ∧ s.since = v) ∨ (specs k (v - 1))[i]? = some s) := by
  unfold goodG at h
  simp only [Bool.and_eq_true, List.all_eq_true, List.mem_range] at h
  have hi : i < 10 := by
    have := (List.getElem?_eq_some_iff.1 hs).1
    have := Fo.specs_len k v
    omega
  have h1 := h.2 i hi
  rw [hs] at h1
  simp only [Bool.and_eq_true, Bool.or_eq_true, decide_eq_true_eq, Bool.not_eq_true', Bool.and_eq_false_iff, decide_eq_false_iff_not] at h1
  obtain ⟨⟨⟨⟨h2, h3⟩, h4⟩, h5⟩, h6⟩ := h1
  refine ⟨h2, h3, h4, ?_, ?_⟩
  · rintro ⟨a, b⟩
    rcases h5 with h5 | h5
    · exact h5 a
    · rw [b] at h5; cases h5
  · rcases h6 with h6 | h6
    · exact .inl h6
    · right
      split at h6
      · rename_i hn
        exact .inl ⟨hn, by simpa using h6⟩
      · rename_i t ht
        right
        rw [ht]
        have : s = t := by simpa using h6
        rw [this]

set_option maxHeartbeats 2000000 in
set_option maxRecDepth 100000 in
theorem fgrows_any (kd : Int) (w : World) (k0 : 0 ≤ kd) (k1 : kd ≤ 255) :
    Calls Try.prog 4 #[.int .u8 kd] w fun e w' => e = .returned (.bool true) ∧ Below w.heap.size w w' := by
  have hand := and_15 kd k0 k1
  obtain ⟨k, hk⟩ : ∃ k : Int, kd % 16 = k := ⟨_, rfl⟩
  rw [hk] at hand
  have hkb : 0 ≤ k ∧ k ≤ 15 := by omega
  have hgood : ∀ v, 1 ≤ v → v ≤ 3 → goodG k v = true := fun v h1 h2 => by
    have := goodG_all k.toNat (by omega) (v - 1).toNat (by omega)
    rw [show ((k.toNat : Nat) : Int) = k by omega, show (1 : Int) + ((v - 1).toNat : Int) = v by omega] at this
    exact this
  have hnone : specs k 0 = [] ∧ specs k 4 = [] := by
    have := goodG_none k.toNat (by omega)
    rw [show ((k.toNat : Nat) : Int) = k by omega] at this
    exact this
  have HG := Lib.hid hgood
  have HN0 := Lib.hid hnone.1
  have HN4 := Lib.hid hnone.2
  clear hk hgood hnone
  go_enter Try.func4, Try.ntmps4
  go_wp2_with fail
  refine (fshown_any w).mono ?_
  rintro e w1 ⟨rfl, hb1⟩
  go_upto_region 3 with fail
  clear hand
  go_wp2
  go_loopw [5] (fun i wr => ∃ v : Int, 1 ≤ v ∧ v ≤ 4 ∧ i = .int .i64 v ∧ Below w.heap.size w wr) (fun i _ => (4 - intOf i).toNat)
  case atStart => exact ⟨1, by omega, by omega, rfl, hb1⟩
  case round =>
    obtain ⟨v, hv1, hv2, rfl, hb⟩ := hrel
    have hsz := hb.size
    by_cases hlt : v ≤ 3
    · have hg := HG.out v hv1 hlt
      have HGV := Lib.hid hg
      have h1 := fun w => specs_rec k v w (by omega) (by omega) (by omega) (by omega)
      have h2 := fun w => specs_rec k (v - 1) w (by omega) (by omega) (by omega) (by omega)
      have h3 := fun w => top_rec k v w (by omega) (by omega) (by omega) (by omega)
      have hat := fun (i : Nat) (s : Spc) (hs : (specs k v)[i]? = some s) => goodG_at hg hs
      have hlen := hg
      unfold goodG at hlen
      simp only [Bool.and_eq_true, decide_eq_true_eq, beq_iff_eq] at hlen
      obtain ⟨⟨⟨hl1, hl2⟩, hl3⟩, _⟩ := hlen
      obtain ⟨L, hL⟩ : ∃ L, specs k v = L := ⟨_, rfl⟩
      obtain ⟨L', hL'⟩ : ∃ L', specs k (v - 1) = L' := ⟨_, rfl⟩
      rw [hl2] at h3
      simp only [hL, hL'] at h1 h2 h3 hat hl1 hl3
      have hl10 := Fo.specs_len k v
      rw [hL] at hl10
      obtain ⟨nl, hnl⟩ : ∃ nl, L.length = nl := ⟨_, rfl⟩
      rw [hnl] at h3 hl1 hl3 hl10
      have H1 := Lib.hid h1
      have H2 := Lib.hid h2
      have H3 := Lib.hid h3
      have HAT := Lib.hid hat
      have HL1 := Lib.hid hl1
      have HL3 := Lib.hid hl3
      have HNL := Lib.hid hnl
      clear hg h1 h2 h3 hat hl1 hl2 hl3 hL hL' hnl
      go_wp2_with fail
      refine (H1.out wr).mono ?_
      rintro e w2 ⟨A, n, c, rfl, hc, hm, hn, hown, hb2⟩
      have hnn : nl = n := by rw [← HNL.out, hn]
      subst hnn
      have HR := Lib.hid (specs_get hown hn)
      have hbw2 := hb.trans (hb2.mono hsz)
      clear hown hn hb2
      go_upto_region 7 with fail
      go_cut [38] (fun b wx => b = .bool false ∧ Below w2.heap.size w2 wx)
      case first =>
        have q : ((nl : Int) != (nl : Int)) = false := by simp
        have hl1 := HL1.out
        by_cases hk7 : 1 ≤ k ∧ k ≤ 7
        · rw [decide_eq_true hk7] at hl1
          have h0 : 0 < nl := of_decide_eq_true hl1.symm
          have ⟨ha, hb'⟩ := hk7
          clear hl1 hk7
          go_wp2_with fail
          refine (H3.out w2).mono ?_
          rintro e w3 ⟨rfl, hb3⟩
          go_wp2
          go_meet
          case rel => exact ⟨rfl, hb3⟩
        · rw [decide_eq_false hk7] at hl1
          have h0 : ¬ 0 < nl := of_decide_eq_false hl1.symm
          clear hl1
          by_cases ha : 1 ≤ k
          · have hb' : ¬ k ≤ 7 := fun h => hk7 ⟨ha, h⟩
            clear hk7
            go_wp2_with fail
            refine (H3.out w2).mono ?_
            rintro e w3 ⟨rfl, hb3⟩
            go_wp2
            go_meet
            case rel => exact ⟨rfl, hb3⟩
          · clear hk7
            go_wp2_with fail
            refine (H3.out w2).mono ?_
            rintro e w3 ⟨rfl, hb3⟩
            go_wp2
            go_meet
            case rel => exact ⟨rfl, hb3⟩
      case rest =>
        obtain ⟨rfl, hb3⟩ := hcut
        obtain ⟨w3, rfl⟩ : ∃ w3, w3 = wc := ⟨_, rfl⟩
        have HR3 := Lib.hid ((HR.out.below hb3).more hb3.size)
        have hbw3 := hbw2.trans (hb3.mono hbw2.size)
        clear hb3 HR
        go_wp2
        go_loop [7] (fun i => ∃ j : Nat, j ≤ nl ∧ i = .int .i64 (j : Int)) (fun i => nl - (intOf i).toNat)
        case atStart => exact ⟨0, Nat.zero_le _, rfl⟩
        case round =>
          obtain ⟨j, hj, rfl⟩ := hrel
          by_cases hlt2 : j < nl
          · obtain ⟨ad, s, rfl, hab, hs, g0, g1, g2, g3, g4⟩ := spec_at HR3.out hlt2
            obtain ⟨a1, a2, a3, a4, _⟩ := HAT.out j s hs
            have q1 : (s.num != (j : Int) + 1) = false := by rw [a1]; simp
            have HA4 := Lib.hid a4
            have a2' : ¬ s.since < 1 := by omega
            have a3' : ¬ v < s.since := by omega
            clear hs a1 a4
            by_cases h1 : 1 < s.since
            · have hnd : s.need = false := by
                cases hh : s.need with
                | false => rfl
                | true => exact absurd ⟨h1, hh⟩ HA4.out
              rw [hnd] at g3
              clear hnd
              go_wp2
              go_round
              case rel => exact ⟨j + 1, by omega, by go_num⟩
              case measure => simp [intOf]; omega
            · go_wp2
              go_round
              case rel => exact ⟨j + 1, by omega, by go_num⟩
              case measure => simp [intOf]; omega
          · obtain rfl : j = nl := by omega
            have hs3 := hbw3.size
            by_cases hv : 1 < v
            · have hvw : IntKind.i64.wrap (v - 1) = v - 1 := by rw [IntKind.wrap_i64]; omega
              go_wp2_with fail
              refine (H2.out w3).mono ?_
              rintro e w4 ⟨A', n', c', rfl, hc', hm', hn', hown', hb4⟩
              have hbw4 := hbw3.trans (hb4.mono hs3)
              have HQ := Lib.hid (specs_get hown' hn')
              have HR4 := Lib.hid ((HR3.out.below hb4).more hb4.size)
              have hle : n' ≤ j := by rw [← hn']; exact HL3.out
              have HN' := Lib.hid hn'
              clear hown' hn' hb4
              go_upto_if 95 with fail
              rw [show decide (j < n') = false from decide_eq_false (by omega)]
              go_wp2
              go_loopw [9] (fun i wx => ∃ jj : Nat, jj ≤ j ∧ i = .int .i64 (jj : Int) ∧ Below w4.heap.size w4 wx) (fun i _ => j - (intOf i).toNat)
              case atStart => exact ⟨0, Nat.zero_le _, rfl, Below.refl _ _⟩
              case round =>
                obtain ⟨jj, hjj, rfl, hbx⟩ := hrel
                by_cases hltj : jj < j
                · obtain ⟨ad, s, rfl, hab, hs, g0, g1, g2, g3, g4⟩ := spec_at (HR4.out.below hbx) hltj
                  have a5 := (HAT.out jj s hs).2.2.2.2
                  have a6 : (L'[jj]? = none ∧ s.since = v) ∨ L'[jj]? = some s := by
                    rcases a5 with h | h
                    · omega
                    · exact h
                  have A6 := Lib.hid a6
                  clear hs a5 a6
                  by_cases hlt3 : jj < n'
                  · obtain ⟨ad', t, rfl, hab', ht, q0, q1, q2, q3, q4⟩ := spec_at (HQ.out.below hbx) hlt3
                    have hst : s = t := by
                      rcases A6.out with ⟨h, _⟩ | h
                      · rw [h] at ht; cases ht
                      · rw [h] at ht; exact Option.some.inj ht
                    have HST := Lib.hid hst
                    have had0 : (ad.add (jj * 5)).block < wr.heap.size := by rw [add_block]; have := hbx.size; omega
                    have had'0 : (ad'.add (jj * 5)).block < wr.heap.size := by rw [add_block]; have := hbx.size; omega
                    clear ht hst
                    go_upto_region 21 with fail
                    refine wp_region_grew (n := 145) (Say [(102, isv (.int .i64 (jj : Int))), (103, isv (.slice (some ad') n' c')), (104, isv (.int .i64 (n' : Int))), (105, isv (.bool true)), (106, isv (.bool true)), (107, isv (.slice (some ad) j c)), (108, isv (.int .i64 (jj : Int))), (109, isv (.pointer (some (ad.add (jj * 5))))), (110, isv (.agg #[.int .i64 s.num, .int .i64 s.wire, .int .i64 s.since, .bool s.need, .bool s.many])), (111, isv (.slice (some ad') n' c')), (112, isv (.int .i64 (jj : Int))), (113, isv (.pointer (some (ad'.add (jj * 5))))), (114, isv (.agg #[.int .i64 t.num, .int .i64 t.wire, .int .i64 t.since, .bool t.need, .bool t.many])), (115, isv (.bool false)), (116, isv (.bool false)), (117, isv (.bool false)), (118, isv (.int .i64 (jj : Int))), (119, isv (.slice (some ad') n' c')), (120, isv (.int .i64 (n' : Int))), (121, isv (.bool false)), (122, isv (.bool false)), (123, isv (undef)), (124, isv (undef)), (125, isv (undef)), (126, isv (undef)), (127, isv (undef)), (128, isv (undef)), (129, isv (undef)), (130, isv (.bool false)), (131, isv (.bool false))]) (by kernel_rfl) (by kernel_rfl) rfl ⟨?_, ?_, ?_, ?_, ?_, ?_, ?_, ?_, ?_, ?_, ?_, ?_, ?_, ?_, ?_, ?_, ?_, ?_, ?_, ?_, ?_, ?_, ?_, ?_, ?_, ?_, ?_, ?_, ?_, ?_, trivial⟩ ?_
                    · exact owed_move rfl rfl (.inl rfl) fun fr w _ hK => known_out hK 9 (by kernel_rfl)
                    · exact owed_move rfl rfl (.inl rfl) fun fr w _ hK => known_out hK 8 (by kernel_rfl)
                    · refine owed_val _ rfl rfl (fun _ => rfl) fun fr w hC hK => ?_
                      have k103 : slot fr 103 = .slice (some ad') n' c' := known_in hK 103 (by kernel_rfl)
                      clear hK
                      unfold slot at k103
                      go_simp
                    · refine owed_val _ rfl rfl (fun _ => rfl) fun fr w hC hK => ?_
                      have k102 : slot fr 102 = .int .i64 (jj : Int) := known_in hK 102 (by kernel_rfl)
                      have k104 : slot fr 104 = .int .i64 (n' : Int) := known_in hK 104 (by kernel_rfl)
                      clear hK
                      unfold slot at k102 k104
                      have f1 : jj < n' := hlt3
                      go_simp
                    · exact owed_move rfl rfl (.inl rfl) fun fr w _ hK => known_in hK 105 (by kernel_rfl)
                    · exact owed_movew rfl rfl rfl (by kernel_rfl) (fun _ _ h => h) (.inl rfl) fun fr w _ hK => known_out hK 6 (by kernel_rfl)
                    · exact owed_movew rfl rfl rfl (by kernel_rfl) (fun _ _ h => h) (.inl rfl) fun fr w _ hK => known_out hK 9 (by kernel_rfl)
                    · refine owed_wval _ rfl rfl rfl (by kernel_rfl) (fun _ _ h => h) (fun _ => rfl) fun fr w hC hK => ?_
                      have k107 : slot fr 107 = .slice (some ad) j c := known_in hK 107 (by kernel_rfl)
                      have k108 : slot fr 108 = .int .i64 (jj : Int) := known_in hK 108 (by kernel_rfl)
                      clear hK
                      unfold slot at k107 k108
                      have f2 : ¬ j ≤ jj := by omega
                      go_simp
                    · refine owed_wval _ rfl rfl rfl (by kernel_rfl) (fun _ _ h => h) (fun _ => rfl) fun fr w hC hK => ?_
                      have k109 : slot fr 109 = .pointer (some (ad.add (jj * 5))) := known_in hK 109 (by kernel_rfl)
                      clear hK
                      unfold slot at k109
                      have x0 := (Below.cell hC (p := ad.add (jj * 5)) had0).trans g0
                      have x1 := (Below.cell hC (p := ⟨(ad.add (jj * 5)).block, (ad.add (jj * 5)).off + 1, none⟩) had0).trans g1
                      have x2 := (Below.cell hC (p := ⟨(ad.add (jj * 5)).block, (ad.add (jj * 5)).off + 2, none⟩) had0).trans g2
                      have x3 := (Below.cell hC (p := ⟨(ad.add (jj * 5)).block, (ad.add (jj * 5)).off + 3, none⟩) had0).trans g3
                      have x4 := (Below.cell hC (p := ⟨(ad.add (jj * 5)).block, (ad.add (jj * 5)).off + 4, none⟩) had0).trans g4
                      go_simp
                    · exact owed_movew rfl rfl rfl (by kernel_rfl) (fun _ _ h => h) (.inl rfl) fun fr w _ hK => known_out hK 8 (by kernel_rfl)
                    · exact owed_movew rfl rfl rfl (by kernel_rfl) (fun _ _ h => h) (.inl rfl) fun fr w _ hK => known_out hK 9 (by kernel_rfl)
                    · refine owed_wval _ rfl rfl rfl (by kernel_rfl) (fun _ _ h => h) (fun _ => rfl) fun fr w hC hK => ?_
                      have k111 : slot fr 111 = .slice (some ad') n' c' := known_in hK 111 (by kernel_rfl)
                      have k112 : slot fr 112 = .int .i64 (jj : Int) := known_in hK 112 (by kernel_rfl)
                      clear hK
                      unfold slot at k111 k112
                      have f2 : ¬ n' ≤ jj := by omega
                      go_simp
                    · refine owed_wval _ rfl rfl rfl (by kernel_rfl) (fun _ _ h => h) (fun _ => rfl) fun fr w hC hK => ?_
                      have k113 : slot fr 113 = .pointer (some (ad'.add (jj * 5))) := known_in hK 113 (by kernel_rfl)
                      clear hK
                      unfold slot at k113
                      have x0 := (Below.cell hC (p := ad'.add (jj * 5)) had'0).trans q0
                      have x1 := (Below.cell hC (p := ⟨(ad'.add (jj * 5)).block, (ad'.add (jj * 5)).off + 1, none⟩) had'0).trans q1
                      have x2 := (Below.cell hC (p := ⟨(ad'.add (jj * 5)).block, (ad'.add (jj * 5)).off + 2, none⟩) had'0).trans q2
                      have x3 := (Below.cell hC (p := ⟨(ad'.add (jj * 5)).block, (ad'.add (jj * 5)).off + 3, none⟩) had'0).trans q3
                      have x4 := (Below.cell hC (p := ⟨(ad'.add (jj * 5)).block, (ad'.add (jj * 5)).off + 4, none⟩) had'0).trans q4
                      go_simp
                    · refine owed_wval _ rfl rfl rfl (by kernel_rfl) (fun _ _ h => h) (fun _ => rfl) fun fr w hC hK => ?_
                      have k20 : slot fr 110 = .agg #[.int .i64 s.num, .int .i64 s.wire, .int .i64 s.since, .bool s.need, .bool s.many] := known_in hK 110 (by kernel_rfl)
                      have k24 : slot fr 114 = .agg #[.int .i64 t.num, .int .i64 t.wire, .int .i64 t.since, .bool t.need, .bool t.many] := known_in hK 114 (by kernel_rfl)
                      clear hK
                      unfold slot at k20 k24
                      go_simp
                      exact spec_if (decide_eq_true HST.out) w
                    · refine owed_val _ rfl rfl (fun _ => rfl) fun fr w hC hK => ?_
                      have k106 : slot fr 106 = .bool true := known_in hK 106 (by kernel_rfl)
                      have k115 : slot fr 115 = .bool false := known_in hK 115 (by kernel_rfl)
                      clear hK
                      unfold slot at k106 k115
                      go_simp
                    · exact owed_move rfl rfl (.inl rfl) fun fr w _ hK => known_in hK 116 (by kernel_rfl)
                    · exact owed_movew rfl rfl rfl (by kernel_rfl) (fun _ _ h => h) (.inl rfl) fun fr w _ hK => known_out hK 9 (by kernel_rfl)
                    · exact owed_movew rfl rfl rfl (by kernel_rfl) (fun _ _ h => h) (.inl rfl) fun fr w _ hK => known_out hK 8 (by kernel_rfl)
                    · refine owed_wval _ rfl rfl rfl (by kernel_rfl) (fun _ _ h => h) (fun _ => rfl) fun fr w hC hK => ?_
                      have k119 : slot fr 119 = .slice (some ad') n' c' := known_in hK 119 (by kernel_rfl)
                      clear hK
                      unfold slot at k119
                      go_simp
                    · refine owed_wval _ rfl rfl rfl (by kernel_rfl) (fun _ _ h => h) (fun _ => rfl) fun fr w hC hK => ?_
                      have k118 : slot fr 118 = .int .i64 (jj : Int) := known_in hK 118 (by kernel_rfl)
                      have k120 : slot fr 120 = .int .i64 (n' : Int) := known_in hK 120 (by kernel_rfl)
                      clear hK
                      unfold slot at k118 k120
                      have f1 : ¬ n' ≤ jj := by omega
                      go_simp
                    · exact owed_movew rfl rfl rfl (by kernel_rfl) (fun _ _ h => h) (.inl rfl) fun fr w _ hK => known_in hK 121 (by kernel_rfl)
                    · exact owed_skipped rfl rfl rfl (by kernel_rfl) (fun _ _ h => h) (fun _ => rfl)
                    · exact owed_skipped rfl rfl rfl (by kernel_rfl) (fun _ _ h => h) (fun _ => rfl)
                    · exact owed_skipped rfl rfl rfl (by kernel_rfl) (fun _ _ h => h) (fun _ => rfl)
                    · exact owed_skipped rfl rfl rfl (by kernel_rfl) (fun _ _ h => h) (fun _ => rfl)
                    · exact owed_skipped rfl rfl rfl (by kernel_rfl) (fun _ _ h => h) (fun _ => rfl)
                    · exact owed_skipped rfl rfl rfl (by kernel_rfl) (fun _ _ h => h) (fun _ => rfl)
                    · exact owed_skipped rfl rfl rfl (by kernel_rfl) (fun _ _ h => h) (fun _ => rfl)
                    · refine owed_wval _ rfl rfl rfl (by kernel_rfl) (fun _ _ h => h) (fun _ => rfl) fun fr w hC hK => ?_
                      have k122 : slot fr 122 = .bool false := known_in hK 122 (by kernel_rfl)
                      have k129 : slot fr 129 = undef := known_in hK 129 (by kernel_rfl)
                      clear hK
                      unfold slot at k122 k129
                      go_simp
                    · refine owed_val _ rfl rfl (fun _ => rfl) fun fr w hC hK => ?_
                      have k117 : slot fr 117 = .bool false := known_in hK 117 (by kernel_rfl)
                      have k130 : slot fr 130 = .bool false := known_in hK 130 (by kernel_rfl)
                      clear hK
                      unfold slot at k117 k130
                      go_simp
                    intro vs w9 hg9 hgood
                    have h6 : vs 131 = .bool false := hgood.2.2.2.2.2.2.2.2.2.2.2.2.2.2.2.2.2.2.2.2.2.2.2.2.2.2.2.2.2.1
                    clear hgood
                    have hbx9 := hbx.trans (hg9.mono hbx.size)
                    simp only [putsOf]
                    rw [h6]
                    go_simp
                    go_wp2
                    go_roundw
                    case rel => exact ⟨jj + 1, by omega, by go_num, hbx9⟩
                    case measure => simp [intOf]; omega
                  · have hsv : s.since = v := by
                      rcases A6.out with ⟨_, h⟩ | h
                      · exact h
                      · have := (List.getElem?_eq_some_iff.1 h).1
                        have := HN'.out
                        omega
                    have HQV := Lib.hid (show (s.since != v) = false by rw [hsv]; simp)
                    have had0 : (ad.add (jj * 5)).block < wr.heap.size := by rw [add_block]; have := hbx.size; omega
                    clear hsv
                    go_upto_region 21 with fail
                    refine wp_region_grew (n := 145) (Say [(102, isv (.int .i64 (jj : Int))), (103, isv (.slice A' n' c')), (104, isv (.int .i64 (n' : Int))), (105, isv (.bool false)), (106, isv (.bool false)), (107, isv (undef)), (108, isv (undef)), (109, isv (undef)), (110, isv (undef)), (111, isv (undef)), (112, isv (undef)), (113, isv (undef)), (114, isv (undef)), (115, isv (undef)), (116, isv (.bool false)), (117, isv (.bool false)), (118, isv (.int .i64 (jj : Int))), (119, isv (.slice A' n' c')), (120, isv (.int .i64 (n' : Int))), (121, isv (.bool true)), (122, isv (.bool true)), (123, isv (.slice (some ad) j c)), (124, isv (.int .i64 (jj : Int))), (125, isv (.pointer (some (ad.add (jj * 5))))), (126, isv (.pointer (some ⟨(ad.add (jj * 5)).block, (ad.add (jj * 5)).off + 2, none⟩))), (127, isv (.int .i64 s.since)), (128, isv (.int .i64 v)), (129, isv (.bool false)), (130, isv (.bool false)), (131, isv (.bool false))]) (by kernel_rfl) (by kernel_rfl) rfl ⟨?_, ?_, ?_, ?_, ?_, ?_, ?_, ?_, ?_, ?_, ?_, ?_, ?_, ?_, ?_, ?_, ?_, ?_, ?_, ?_, ?_, ?_, ?_, ?_, ?_, ?_, ?_, ?_, ?_, ?_, trivial⟩ ?_
                    · exact owed_move rfl rfl (.inl rfl) fun fr w _ hK => known_out hK 9 (by kernel_rfl)
                    · exact owed_move rfl rfl (.inl rfl) fun fr w _ hK => known_out hK 8 (by kernel_rfl)
                    · refine owed_val _ rfl rfl (fun _ => rfl) fun fr w hC hK => ?_
                      have k103 : slot fr 103 = .slice A' n' c' := known_in hK 103 (by kernel_rfl)
                      clear hK
                      unfold slot at k103
                      go_simp
                    · refine owed_val _ rfl rfl (fun _ => rfl) fun fr w hC hK => ?_
                      have k102 : slot fr 102 = .int .i64 (jj : Int) := known_in hK 102 (by kernel_rfl)
                      have k104 : slot fr 104 = .int .i64 (n' : Int) := known_in hK 104 (by kernel_rfl)
                      clear hK
                      unfold slot at k102 k104
                      have f1 : ¬ jj < n' := hlt3
                      go_simp
                    · exact owed_move rfl rfl (.inl rfl) fun fr w _ hK => known_in hK 105 (by kernel_rfl)
                    · exact owed_skipped rfl rfl rfl (by kernel_rfl) (fun _ _ h => h) (fun _ => rfl)
                    · exact owed_skipped rfl rfl rfl (by kernel_rfl) (fun _ _ h => h) (fun _ => rfl)
                    · exact owed_skipped rfl rfl rfl (by kernel_rfl) (fun _ _ h => h) (fun _ => rfl)
                    · exact owed_skipped rfl rfl rfl (by kernel_rfl) (fun _ _ h => h) (fun _ => rfl)
                    · exact owed_skipped rfl rfl rfl (by kernel_rfl) (fun _ _ h => h) (fun _ => rfl)
                    · exact owed_skipped rfl rfl rfl (by kernel_rfl) (fun _ _ h => h) (fun _ => rfl)
                    · exact owed_skipped rfl rfl rfl (by kernel_rfl) (fun _ _ h => h) (fun _ => rfl)
                    · exact owed_skipped rfl rfl rfl (by kernel_rfl) (fun _ _ h => h) (fun _ => rfl)
                    · exact owed_skipped rfl rfl rfl (by kernel_rfl) (fun _ _ h => h) (fun _ => rfl)
                    · refine owed_val _ rfl rfl (fun _ => rfl) fun fr w hC hK => ?_
                      have k106 : slot fr 106 = .bool false := known_in hK 106 (by kernel_rfl)
                      have k115 : slot fr 115 = undef := known_in hK 115 (by kernel_rfl)
                      clear hK
                      unfold slot at k106 k115
                      go_simp
                    · exact owed_move rfl rfl (.inl rfl) fun fr w _ hK => known_in hK 116 (by kernel_rfl)
                    · exact owed_movew rfl rfl rfl (by kernel_rfl) (fun _ _ h => h) (.inl rfl) fun fr w _ hK => known_out hK 9 (by kernel_rfl)
                    · exact owed_movew rfl rfl rfl (by kernel_rfl) (fun _ _ h => h) (.inl rfl) fun fr w _ hK => known_out hK 8 (by kernel_rfl)
                    · refine owed_wval _ rfl rfl rfl (by kernel_rfl) (fun _ _ h => h) (fun _ => rfl) fun fr w hC hK => ?_
                      have k119 : slot fr 119 = .slice A' n' c' := known_in hK 119 (by kernel_rfl)
                      clear hK
                      unfold slot at k119
                      go_simp
                    · refine owed_wval _ rfl rfl rfl (by kernel_rfl) (fun _ _ h => h) (fun _ => rfl) fun fr w hC hK => ?_
                      have k118 : slot fr 118 = .int .i64 (jj : Int) := known_in hK 118 (by kernel_rfl)
                      have k120 : slot fr 120 = .int .i64 (n' : Int) := known_in hK 120 (by kernel_rfl)
                      clear hK
                      unfold slot at k118 k120
                      have f1 : n' ≤ jj := by omega
                      go_simp
                    · exact owed_movew rfl rfl rfl (by kernel_rfl) (fun _ _ h => h) (.inl rfl) fun fr w _ hK => known_in hK 121 (by kernel_rfl)
                    · exact owed_movew rfl rfl rfl (by kernel_rfl) (fun _ _ h => h) (.inl rfl) fun fr w _ hK => known_out hK 6 (by kernel_rfl)
                    · exact owed_movew rfl rfl rfl (by kernel_rfl) (fun _ _ h => h) (.inl rfl) fun fr w _ hK => known_out hK 9 (by kernel_rfl)
                    · refine owed_wval _ rfl rfl rfl (by kernel_rfl) (fun _ _ h => h) (fun _ => rfl) fun fr w hC hK => ?_
                      have k123 : slot fr 123 = .slice (some ad) j c := known_in hK 123 (by kernel_rfl)
                      have k124 : slot fr 124 = .int .i64 (jj : Int) := known_in hK 124 (by kernel_rfl)
                      clear hK
                      unfold slot at k123 k124
                      have f2 : ¬ j ≤ jj := by omega
                      go_simp
                    · refine owed_wval _ rfl rfl rfl (by kernel_rfl) (fun _ _ h => h) (fun _ => rfl) fun fr w hC hK => ?_
                      have k125 : slot fr 125 = .pointer (some (ad.add (jj * 5))) := known_in hK 125 (by kernel_rfl)
                      clear hK
                      unfold slot at k125
                      go_simp
                    · refine owed_wval _ rfl rfl rfl (by kernel_rfl) (fun _ _ h => h) (fun _ => rfl) fun fr w hC hK => ?_
                      have k126 : slot fr 126 = .pointer (some ⟨(ad.add (jj * 5)).block, (ad.add (jj * 5)).off + 2, none⟩) := known_in hK 126 (by kernel_rfl)
                      clear hK
                      unfold slot at k126
                      have x2 := (Below.cell hC (p := ⟨(ad.add (jj * 5)).block, (ad.add (jj * 5)).off + 2, none⟩) had0).trans g2
                      go_simp
                    · exact owed_movew rfl rfl rfl (by kernel_rfl) (fun _ _ h => h) (.inl rfl) fun fr w _ hK => known_out hK 5 (by kernel_rfl)
                    · refine owed_wval _ rfl rfl rfl (by kernel_rfl) (fun _ _ h => h) (fun _ => rfl) fun fr w hC hK => ?_
                      have k127 : slot fr 127 = .int .i64 s.since := known_in hK 127 (by kernel_rfl)
                      have k128 : slot fr 128 = .int .i64 v := known_in hK 128 (by kernel_rfl)
                      clear hK
                      unfold slot at k127 k128
                      have f1 := HQV.out
                      go_simp
                    · refine owed_wval _ rfl rfl rfl (by kernel_rfl) (fun _ _ h => h) (fun _ => rfl) fun fr w hC hK => ?_
                      have k122 : slot fr 122 = .bool true := known_in hK 122 (by kernel_rfl)
                      have k129 : slot fr 129 = .bool false := known_in hK 129 (by kernel_rfl)
                      clear hK
                      unfold slot at k122 k129
                      go_simp
                    · refine owed_val _ rfl rfl (fun _ => rfl) fun fr w hC hK => ?_
                      have k117 : slot fr 117 = .bool false := known_in hK 117 (by kernel_rfl)
                      have k130 : slot fr 130 = .bool false := known_in hK 130 (by kernel_rfl)
                      clear hK
                      unfold slot at k117 k130
                      go_simp
                    intro vs w9 hg9 hgood
                    have h6 : vs 131 = .bool false := hgood.2.2.2.2.2.2.2.2.2.2.2.2.2.2.2.2.2.2.2.2.2.2.2.2.2.2.2.2.2.1
                    clear hgood
                    have hbx9 := hbx.trans (hg9.mono hbx.size)
                    simp only [putsOf]
                    rw [h6]
                    go_simp
                    go_wp2
                    go_roundw
                    case rel => exact ⟨jj + 1, by omega, by go_num, hbx9⟩
                    case measure => simp [intOf]; omega
                · obtain rfl : jj = j := by omega
                  have hbf := hbw4.trans (hbx.mono hbw4.size)
                  go_wp2
                  go_roundw
                  case rel => exact ⟨v + 1, by omega, by omega, by go_num, hbf⟩
                  case measure => simp [intOf]; omega
            · go_wp2
              go_roundw
              case rel => exact ⟨v + 1, by omega, by omega, by go_num, hbw3⟩
              case measure => simp [intOf]; omega
    · obtain rfl : v = 4 := by omega
      have h0 := fun w => specs_rec k 0 w (by omega) (by omega) (by omega) (by omega)
      have h4 := fun w => specs_rec k 4 w (by omega) (by omega) (by omega) (by omega)
      rw [HN0.out] at h0
      rw [HN4.out] at h4
      have H0 := Lib.hid h0
      have H4 := Lib.hid h4
      clear h0 h4
      go_wp2_with fail
      refine (H0.out wr).mono ?_
      rintro e w2 ⟨A, n, c, rfl, hc, hm, hn, _, hb2⟩
      obtain rfl : n = 0 := hn.symm
      have hbw2 := hb.trans (hb2.mono hsz)
      go_wp2_with fail
      refine (H4.out w2).mono ?_
      rintro e w3 ⟨A', n', c', rfl, hc', hm', hn', _, hb3⟩
      obtain rfl : n' = 0 := hn'.symm
      have hbw3 := hbw2.trans (hb3.mono hbw2.size)
      go_wp2
      go_ret
      exact ⟨rfl, hbw3⟩
end Go.Proofs.Ytmcbifdfpaooaaa
