/-
  The walks of slices.Equal at the landed state's types, of slices.EqualFunc, and of sameSnap.
-/
import Derived.Test.YtdkjdiamekfbdaaStSame
namespace Go.Proofs.Ytdkjdiamekfbdaa
open Go.RowKit
open Rf (Snp)
open St (Ses Opn Sta)

set_option maxHeartbeats 1000000 in
set_option maxRecDepth 100000 in
theorem equal_ints (A A' : Option Addr) (n n' c c' : Nat) (l l' : List Int) (w : World) (h : Rd w w.heap.size 1 A n (ivs l)) (h' : Rd w w.heap.size 1 A' n' (ivs l')) (hnc : n ≤ c) (hmax : c ≤ 9223372036854775807) (hnc' : n' ≤ c') (_hmax' : c' ≤ 9223372036854775807) :
    Calls Try.prog 50 #[.slice A n c, .slice A' n' c'] w fun e w' => e = .returned (.bool (decide (l = l'))) ∧ Below w.heap.size w w' := by
  have hlen : l.length = n := by have := h.1; rw [ivs_len] at this; omega
  have hlen' : l'.length = n' := by have := h'.1; rw [ivs_len] at this; omega
  obtain ⟨D, hD⟩ : ∃ D, decide (l = l') = D := ⟨_, rfl⟩
  rw [hD]
  have HR := Lib.hid h
  have HR' := Lib.hid h'
  have HL := Lib.hid hlen
  have HL' := Lib.hid hlen'
  have HD := Lib.hid hD
  clear h h' hlen hlen' hD
  by_cases hnn : n = n'
  · subst hnn
    go_enter Try.func50, Try.ntmps50
    go_wp2
    go_loopw [13] (fun i wr => ∃ j : Nat, j ≤ n ∧ i = .int .i64 (j : Int) ∧ l.take j = l'.take j ∧ Below w.heap.size w wr) (fun i _ => n - (intOf i).toNat)
    case atStart => exact ⟨0, Nat.zero_le _, rfl, rfl, Below.refl _ _⟩
    case round =>
      obtain ⟨j, hj, rfl, hm, hb⟩ := hrel
      have HM := Lib.hid hm
      clear hm
      by_cases hlt : j < n
      · obtain ⟨ad, x, rfl, hab, hx, g0⟩ := (HR.out.below hb).int hlt
        obtain ⟨ad', x', rfl, hab', hx', g0'⟩ := (HR'.out.below hb).int hlt
        have HX := Lib.hid hx
        have HX' := Lib.hid hx'
        clear hx hx'
        by_cases hxx : x = x'
        · subst hxx
          go_wp2_with (go_quiet (fail))
          go_roundw
          case rel =>
            refine ⟨j + 1, by omega, by go_num, ?_, by first | exact bel_drew' hb _ | exact hb⟩
            rw [List.take_add_one, List.take_add_one, HM.out, HX.out, HX'.out]
          case measure => simp [intOf]; omega
        · have q : (x != x') = true := by rw [bne_iff_ne]; exact hxx
          obtain rfl : D = false := by
            rw [← HD.out, decide_eq_false_iff_not]
            intro e
            subst e
            rw [HX.out] at HX'
            exact hxx (Option.some.inj HX'.out)
          go_wp2_with (go_quiet (fail))
          go_ret
          exact ⟨rfl, by first | exact bel_drew' hb _ | exact hb⟩
      · obtain rfl : j = n := by omega
        obtain rfl : D = true := by
          have := HM.out
          rw [List.take_of_length_le (by have := HL.out; omega), List.take_of_length_le (by have := HL'.out; omega)] at this
          rw [← HD.out, this]; simp
        go_wp2
        go_ret
        exact ⟨rfl, hb⟩
  · have q : ((n : Int) != (n' : Int)) = true := by rw [bne_iff_ne]; omega
    obtain rfl : D = false := by
      rw [← HD.out, decide_eq_false_iff_not]
      rintro rfl
      exact hnn (HL.out.symm.trans HL'.out)
    go_enter Try.func50, Try.ntmps50
    go_wp2
    go_ret
    exact ⟨rfl, Below.refl _ _⟩

set_option maxHeartbeats 2000000 in
set_option maxRecDepth 100000 in
theorem equal_se (A A' : Option Addr) (n n' c c' : Nat) (l l' : List Ses) (w : World) (hn : n ≤ 9223372036854775807) (h : RdR secells 4 w w.heap.size A n l) (h' : RdR secells 4 w w.heap.size A' n' l') :
    Calls Try.prog 28 #[.slice A n c, .slice A' n' c'] w fun e w' => e = .returned (.bool (decide (l = l'))) ∧ Below w.heap.size w w' := by
  obtain ⟨V, hV⟩ : ∃ V, decide (l = l') = V := ⟨_, rfl⟩
  rw [hV]
  have HR := Lib.hid h
  have HR' := Lib.hid h'
  have HL := Lib.hid h.1
  have HL' := Lib.hid h'.1
  have HV := Lib.hid hV
  clear h h' hV
  by_cases hnn : n = n'
  · subst hnn
    go_enter Try.func28, Try.ntmps28
    go_wp2
    go_loopw [13] (fun i wr => ∃ j : Nat, j ≤ n ∧ i = .int .i64 (j : Int) ∧ l.take j = l'.take j ∧ Below w.heap.size w wr) (fun i _ => n - (intOf i).toNat)
    case atStart => exact ⟨0, Nat.zero_le _, rfl, rfl, Below.refl _ _⟩
    case round =>
      obtain ⟨j, hj, rfl, hm, hb⟩ := hrel
      have HM := Lib.hid hm
      have hsz := hb.size
      clear hm
      by_cases hlt : j < n
      · obtain ⟨ad, f, rfl, hab, ha, g0, g1, g2, g3⟩ := rse_get (HR.out.below hb) hlt
        obtain ⟨ad', f', rfl, hab', ha', q0, q1, q2, q3⟩ := rse_get (HR'.out.below hb) hlt
        have HA0 := Lib.hid (show (ad.add (j * 4)).block < wr.heap.size by rw [add_block]; omega)
        have HA1 := Lib.hid (show (ad'.add (j * 4)).block < wr.heap.size by rw [add_block]; omega)
        have HA := Lib.hid ha
        have HA' := Lib.hid ha'
        clear ha ha'
        obtain ⟨D, hD⟩ : ∃ D, decide (f = f') = D := ⟨_, rfl⟩
        have HD := Lib.hid hD
        clear hD
        go_upto_region 6 with fail
        go_cut [24] (fun b wx => b = .bool (!D) ∧ Below wr.heap.size wr wx)
        case first =>
          refine wp_region_grew (n := 26) (Say [(16, isv (.slice (some ad) n c)), (17, isv (.int .i64 (j : Int))), (18, isv (.pointer (some (ad.add (j * 4))))), (19, isv (.agg #[.int .i64 f.client, .int .i64 f.seq, .int .i64 f.code, .int .i64 f.n])), (20, isv (.slice (some ad') n c')), (21, isv (.int .i64 (j : Int))), (22, isv (.pointer (some (ad'.add (j * 4))))), (23, isv (.agg #[.int .i64 f'.client, .int .i64 f'.seq, .int .i64 f'.code, .int .i64 f'.n])), (24, isv (.bool (!D)))]) (by kernel_rfl) (by kernel_rfl) rfl ⟨?_, ?_, ?_, ?_, ?_, ?_, ?_, ?_, ?_, trivial⟩ ?_
          · exact owed_move rfl rfl (.inl rfl) fun fr w _ hK => known_out hK 0 (by kernel_rfl)
          · exact owed_move rfl rfl (.inl rfl) fun fr w _ hK => known_out hK 5 (by kernel_rfl)
          · refine owed_val _ rfl rfl (fun _ => rfl) fun fr w hC hK => ?_
            have k16 : slot fr 16 = .slice (some ad) n c := known_in hK 16 (by kernel_rfl)
            have k17 : slot fr 17 = .int .i64 (j : Int) := known_in hK 17 (by kernel_rfl)
            clear hK
            unfold slot at k16 k17
            have f2 : ¬ n ≤ j := by omega
            go_simp
          · refine owed_val _ rfl rfl (fun _ => rfl) fun fr w hC hK => ?_
            have k18 : slot fr 18 = .pointer (some (ad.add (j * 4))) := known_in hK 18 (by kernel_rfl)
            clear hK
            unfold slot at k18
            have x0 := (Below.cell hC (p := ad.add (j * 4)) HA0.out).trans g0
            have x1 := (Below.cell hC (p := ⟨(ad.add (j * 4)).block, (ad.add (j * 4)).off + 1, none⟩) HA0.out).trans g1
            have x2 := (Below.cell hC (p := ⟨(ad.add (j * 4)).block, (ad.add (j * 4)).off + 2, none⟩) HA0.out).trans g2
            have x3 := (Below.cell hC (p := ⟨(ad.add (j * 4)).block, (ad.add (j * 4)).off + 3, none⟩) HA0.out).trans g3
            go_simp
          · exact owed_move rfl rfl (.inl rfl) fun fr w _ hK => known_out hK 1 (by kernel_rfl)
          · exact owed_move rfl rfl (.inl rfl) fun fr w _ hK => known_out hK 5 (by kernel_rfl)
          · refine owed_val _ rfl rfl (fun _ => rfl) fun fr w hC hK => ?_
            have k20 : slot fr 20 = .slice (some ad') n c' := known_in hK 20 (by kernel_rfl)
            have k21 : slot fr 21 = .int .i64 (j : Int) := known_in hK 21 (by kernel_rfl)
            clear hK
            unfold slot at k20 k21
            have f2 : ¬ n ≤ j := by omega
            go_simp
          · refine owed_val _ rfl rfl (fun _ => rfl) fun fr w hC hK => ?_
            have k22 : slot fr 22 = .pointer (some (ad'.add (j * 4))) := known_in hK 22 (by kernel_rfl)
            clear hK
            unfold slot at k22
            have x0 := (Below.cell hC (p := ad'.add (j * 4)) HA1.out).trans q0
            have x1 := (Below.cell hC (p := ⟨(ad'.add (j * 4)).block, (ad'.add (j * 4)).off + 1, none⟩) HA1.out).trans q1
            have x2 := (Below.cell hC (p := ⟨(ad'.add (j * 4)).block, (ad'.add (j * 4)).off + 2, none⟩) HA1.out).trans q2
            have x3 := (Below.cell hC (p := ⟨(ad'.add (j * 4)).block, (ad'.add (j * 4)).off + 3, none⟩) HA1.out).trans q3
            go_simp
          · refine owed_val _ rfl rfl (fun _ => rfl) fun fr w hC hK => ?_
            have k19 : slot fr 19 = .agg #[.int .i64 f.client, .int .i64 f.seq, .int .i64 f.code, .int .i64 f.n] := known_in hK 19 (by kernel_rfl)
            have k23 : slot fr 23 = .agg #[.int .i64 f'.client, .int .i64 f'.seq, .int .i64 f'.code, .int .i64 f'.n] := known_in hK 23 (by kernel_rfl)
            clear hK
            unfold slot at k19 k23
            go_simp
            exact se_if HD.out w
          intro vs w' hg hgood
          have h24 : vs 24 = .bool (!D) := hgood.2.2.2.2.2.2.2.2.1
          clear hgood
          simp only [putsOf]
          rw [h24]
          go_simp
          go_wp2
          go_meet
          case rel => exact ⟨rfl, hg⟩
        case rest =>
          obtain ⟨rfl, hb3⟩ := hcut
          have hbc := hb.trans (hb3.mono hsz)
          clear g0 g1 g2 g3 q0 q1 q2 q3
          cases D with
          | true =>
            have haa := of_decide_eq_true HD.out
            have HE := Lib.hid (show l.take (j + 1) = l'.take (j + 1) by rw [List.take_add_one, List.take_add_one, HM.out, HA.out, HA'.out, haa])
            clear haa
            go_wp2
            go_roundw
            case rel => exact ⟨j + 1, by omega, by go_num, HE.out, hbc⟩
            case measure => simp [intOf]; omega
          | false =>
            have hv : V = false := by
              rw [← HV.out, decide_eq_false_iff_not]
              rintro rfl
              have e := HA.out.symm.trans HA'.out
              exact of_decide_eq_false HD.out (Option.some.inj e)
            have HVV := Lib.hid hv
            clear hv
            go_wp2
            go_ret
            exact ⟨by rw [HVV.out]; rfl, hbc⟩
      · obtain rfl : j = n := by omega
        have hv : V = true := by
          have := HM.out
          rw [List.take_of_length_le (by have := HL.out; omega), List.take_of_length_le (by have := HL'.out; omega)] at this
          rw [← HV.out, this]; simp
        have HVV := Lib.hid hv
        clear hv
        go_wp2
        go_ret
        exact ⟨by rw [HVV.out]; rfl, hb⟩
  · have q : ((n : Int) != (n' : Int)) = true := by rw [bne_iff_ne]; omega
    obtain rfl : V = false := by
      rw [← HV.out, decide_eq_false_iff_not]
      rintro rfl
      exact hnn (HL.out.symm.trans HL'.out)
    go_enter Try.func28, Try.ntmps28
    go_wp2
    go_ret
    exact ⟨rfl, Below.refl _ _⟩

set_option maxHeartbeats 2000000 in
set_option maxRecDepth 100000 in
theorem equal_op (A A' : Option Addr) (n n' c c' : Nat) (l l' : List Opn) (w : World) (hn : n ≤ 9223372036854775807) (h : RdR opcells 2 w w.heap.size A n l) (h' : RdR opcells 2 w w.heap.size A' n' l') :
    Calls Try.prog 29 #[.slice A n c, .slice A' n' c'] w fun e w' => e = .returned (.bool (decide (l = l'))) ∧ Below w.heap.size w w' := by
  obtain ⟨V, hV⟩ : ∃ V, decide (l = l') = V := ⟨_, rfl⟩
  rw [hV]
  have HR := Lib.hid h
  have HR' := Lib.hid h'
  have HL := Lib.hid h.1
  have HL' := Lib.hid h'.1
  have HV := Lib.hid hV
  clear h h' hV
  by_cases hnn : n = n'
  · subst hnn
    go_enter Try.func29, Try.ntmps29
    go_wp2
    go_loopw [13] (fun i wr => ∃ j : Nat, j ≤ n ∧ i = .int .i64 (j : Int) ∧ l.take j = l'.take j ∧ Below w.heap.size w wr) (fun i _ => n - (intOf i).toNat)
    case atStart => exact ⟨0, Nat.zero_le _, rfl, rfl, Below.refl _ _⟩
    case round =>
      obtain ⟨j, hj, rfl, hm, hb⟩ := hrel
      have HM := Lib.hid hm
      have hsz := hb.size
      clear hm
      by_cases hlt : j < n
      · obtain ⟨ad, f, rfl, hab, ha, g0, g1⟩ := rop_get (HR.out.below hb) hlt
        obtain ⟨ad', f', rfl, hab', ha', q0, q1⟩ := rop_get (HR'.out.below hb) hlt
        have HA0 := Lib.hid (show (ad.add (j * 2)).block < wr.heap.size by rw [add_block]; omega)
        have HA1 := Lib.hid (show (ad'.add (j * 2)).block < wr.heap.size by rw [add_block]; omega)
        have HA := Lib.hid ha
        have HA' := Lib.hid ha'
        clear ha ha'
        obtain ⟨D, hD⟩ : ∃ D, decide (f = f') = D := ⟨_, rfl⟩
        have HD := Lib.hid hD
        clear hD
        go_upto_region 6 with fail
        go_cut [24] (fun b wx => b = .bool (!D) ∧ Below wr.heap.size wr wx)
        case first =>
          refine wp_region_grew (n := 26) (Say [(16, isv (.slice (some ad) n c)), (17, isv (.int .i64 (j : Int))), (18, isv (.pointer (some (ad.add (j * 2))))), (19, isv (.agg #[.int .i64 f.set, .int .i64 f.client])), (20, isv (.slice (some ad') n c')), (21, isv (.int .i64 (j : Int))), (22, isv (.pointer (some (ad'.add (j * 2))))), (23, isv (.agg #[.int .i64 f'.set, .int .i64 f'.client])), (24, isv (.bool (!D)))]) (by kernel_rfl) (by kernel_rfl) rfl ⟨?_, ?_, ?_, ?_, ?_, ?_, ?_, ?_, ?_, trivial⟩ ?_
          · exact owed_move rfl rfl (.inl rfl) fun fr w _ hK => known_out hK 0 (by kernel_rfl)
          · exact owed_move rfl rfl (.inl rfl) fun fr w _ hK => known_out hK 5 (by kernel_rfl)
          · refine owed_val _ rfl rfl (fun _ => rfl) fun fr w hC hK => ?_
            have k16 : slot fr 16 = .slice (some ad) n c := known_in hK 16 (by kernel_rfl)
            have k17 : slot fr 17 = .int .i64 (j : Int) := known_in hK 17 (by kernel_rfl)
            clear hK
            unfold slot at k16 k17
            have f2 : ¬ n ≤ j := by omega
            go_simp
          · refine owed_val _ rfl rfl (fun _ => rfl) fun fr w hC hK => ?_
            have k18 : slot fr 18 = .pointer (some (ad.add (j * 2))) := known_in hK 18 (by kernel_rfl)
            clear hK
            unfold slot at k18
            have x0 := (Below.cell hC (p := ad.add (j * 2)) HA0.out).trans g0
            have x1 := (Below.cell hC (p := ⟨(ad.add (j * 2)).block, (ad.add (j * 2)).off + 1, none⟩) HA0.out).trans g1
            go_simp
          · exact owed_move rfl rfl (.inl rfl) fun fr w _ hK => known_out hK 1 (by kernel_rfl)
          · exact owed_move rfl rfl (.inl rfl) fun fr w _ hK => known_out hK 5 (by kernel_rfl)
          · refine owed_val _ rfl rfl (fun _ => rfl) fun fr w hC hK => ?_
            have k20 : slot fr 20 = .slice (some ad') n c' := known_in hK 20 (by kernel_rfl)
            have k21 : slot fr 21 = .int .i64 (j : Int) := known_in hK 21 (by kernel_rfl)
            clear hK
            unfold slot at k20 k21
            have f2 : ¬ n ≤ j := by omega
            go_simp
          · refine owed_val _ rfl rfl (fun _ => rfl) fun fr w hC hK => ?_
            have k22 : slot fr 22 = .pointer (some (ad'.add (j * 2))) := known_in hK 22 (by kernel_rfl)
            clear hK
            unfold slot at k22
            have x0 := (Below.cell hC (p := ad'.add (j * 2)) HA1.out).trans q0
            have x1 := (Below.cell hC (p := ⟨(ad'.add (j * 2)).block, (ad'.add (j * 2)).off + 1, none⟩) HA1.out).trans q1
            go_simp
          · refine owed_val _ rfl rfl (fun _ => rfl) fun fr w hC hK => ?_
            have k19 : slot fr 19 = .agg #[.int .i64 f.set, .int .i64 f.client] := known_in hK 19 (by kernel_rfl)
            have k23 : slot fr 23 = .agg #[.int .i64 f'.set, .int .i64 f'.client] := known_in hK 23 (by kernel_rfl)
            clear hK
            unfold slot at k19 k23
            go_simp
            exact op_if HD.out w
          intro vs w' hg hgood
          have h24 : vs 24 = .bool (!D) := hgood.2.2.2.2.2.2.2.2.1
          clear hgood
          simp only [putsOf]
          rw [h24]
          go_simp
          go_wp2
          go_meet
          case rel => exact ⟨rfl, hg⟩
        case rest =>
          obtain ⟨rfl, hb3⟩ := hcut
          have hbc := hb.trans (hb3.mono hsz)
          clear g0 g1 q0 q1
          cases D with
          | true =>
            have haa := of_decide_eq_true HD.out
            have HE := Lib.hid (show l.take (j + 1) = l'.take (j + 1) by rw [List.take_add_one, List.take_add_one, HM.out, HA.out, HA'.out, haa])
            clear haa
            go_wp2
            go_roundw
            case rel => exact ⟨j + 1, by omega, by go_num, HE.out, hbc⟩
            case measure => simp [intOf]; omega
          | false =>
            have hv : V = false := by
              rw [← HV.out, decide_eq_false_iff_not]
              rintro rfl
              have e := HA.out.symm.trans HA'.out
              exact of_decide_eq_false HD.out (Option.some.inj e)
            have HVV := Lib.hid hv
            clear hv
            go_wp2
            go_ret
            exact ⟨by rw [HVV.out]; rfl, hbc⟩
      · obtain rfl : j = n := by omega
        have hv : V = true := by
          have := HM.out
          rw [List.take_of_length_le (by have := HL.out; omega), List.take_of_length_le (by have := HL'.out; omega)] at this
          rw [← HV.out, this]; simp
        have HVV := Lib.hid hv
        clear hv
        go_wp2
        go_ret
        exact ⟨by rw [HVV.out]; rfl, hb⟩
  · have q : ((n : Int) != (n' : Int)) = true := by rw [bne_iff_ne]; omega
    obtain rfl : V = false := by
      rw [← HV.out, decide_eq_false_iff_not]
      rintro rfl
      exact hnn (HL.out.symm.trans HL'.out)
    go_enter Try.func29, Try.ntmps29
    go_wp2
    go_ret
    exact ⟨rfl, Below.refl _ _⟩

set_option maxHeartbeats 4000000 in
set_option maxRecDepth 100000 in
theorem samesnap_c (c d : Snp) (s t : Option Addr × Nat) (w : World) (h : RdSn w w.heap.size c s) (h' : RdSn w w.heap.size d t) (hb : ∀ b ∈ c.tag, b < 256) (hb' : ∀ b ∈ d.tag, b < 256) :
    Calls Try.prog 31 #[snagg c s, snagg d t] w fun e w' => e = .returned (.bool (decide (c = d))) ∧ Below w.heap.size w w' := by
  obtain ⟨w0, hw0, hk0, hb0, hs0⟩ := box_snp w c s 38
  obtain ⟨w1, hw1, hk1, hb1, hs1⟩ := box_snp w0 d t 38
  have hs01 : w0.heap.size = w.heap.size + 1 := by rw [hw0]; simp
  have hbw1 : Below w.heap.size w w1 := hb0.trans (hb1.mono (Nat.le_of_lt hs0))
  have HK0 := Lib.hid (hk0.below hb1 hs0)
  have hk1' : Blk w1 (w.heap.size + 1) 38 (sncells d t).toArray := by rw [← hs01]; exact hk1
  have HK1 := Lib.hid hk1'
  obtain ⟨k0, k1, k2, k3, k4⟩ := snblk_cells HK0.out
  obtain ⟨j0, j1, j2, j3, j4⟩ := snblk_cells hk1'
  have hr := (h.below hbw1).more hbw1.size
  have hr' := (h'.below hbw1).more hbw1.size
  have HC := Lib.hid (equal_ints s.1 t.1 c.chunks.length d.chunks.length s.2 t.2 c.chunks d.chunks w1 hr.1 hr'.1 hr.2.1 hr.2.2 hr'.2.1 hr'.2.2)
  have HW := Lib.hid (show w1 = (w.alloc (.cells (sncells c s).toArray 38)).alloc (.cells (sncells d t).toArray 38) by rw [hw1, hw0])
  have he := snp_eq c d
  have q4 := str_beq hb hb'
  obtain ⟨D, hD⟩ : ∃ D, decide (c = d) = D := ⟨_, rfl⟩
  obtain ⟨e0, q0⟩ : ∃ e, (c.id == d.id) = e := ⟨_, rfl⟩
  obtain ⟨e1, q1⟩ : ∃ e, (c.set == d.set) = e := ⟨_, rfl⟩
  obtain ⟨e3, q3⟩ : ∃ e, (c.held == d.held) = e := ⟨_, rfl⟩
  obtain ⟨e4, q5⟩ : ∃ e, decide (c.tag = d.tag) = e := ⟨_, rfl⟩
  rw [q0, q1, q3, q5, hD] at he
  rw [q5] at q4
  rw [hD]
  obtain ⟨I, hI⟩ : ∃ I, decide (c.chunks = d.chunks) = I := ⟨_, rfl⟩
  rw [hI] at HC he
  have HE := Lib.hid he
  clear hw0 hw1 hk0 hk1 hk1' hb0 hb1 h h' hr hr' he hD q5 hI hs01
  unfold snagg sncells
  go_enter Try.func31, Try.ntmps31
  go_upto_region 1 with fail
  rw [show ((w.alloc (.cells #[.int .i64 c.id, .int .i64 c.set, .slice s.1 c.chunks.length s.2, .bool c.held, .string (strOf c.tag)] 38)).alloc (.cells #[.int .i64 d.id, .int .i64 d.set, .slice t.1 d.chunks.length t.2, .bool d.held, .string (strOf d.tag)] 38)) = w1 from HW.out.symm]
  cases e0 with
  | false =>
    obtain rfl : D = false := by rw [HE.out]; simp
    go_wp2
    go_ret
    exact ⟨rfl, hbw1⟩
  | true =>
    cases e1 with
    | false =>
      obtain rfl : D = false := by rw [HE.out]; simp
      go_wp2
      go_ret
      exact ⟨rfl, hbw1⟩
    | true =>
      go_wp2_with fail
      refine HC.out.mono ?_
      rintro e w2 ⟨rfl, hb2⟩
      have hbw2 : Below w.heap.size w w2 := hbw1.trans (hb2.mono hbw1.size)
      obtain ⟨x0, x1, x2, x3, x4⟩ := snblk_cells (HK0.out.below hb2 HK0.out.lt)
      obtain ⟨y0, y1, y2, y3, y4⟩ := snblk_cells (HK1.out.below hb2 HK1.out.lt)
      clear k0 k1 k2 k3 k4 j0 j1 j2 j3 j4 HC x0 x1 x2 y0 y1 y2
      cases I with
      | false =>
        obtain rfl : D = false := by rw [HE.out]; simp
        go_wp2
        go_ret
        exact ⟨rfl, hbw2⟩
      | true =>
        cases e3 with
        | false =>
          obtain rfl : D = false := by rw [HE.out]; simp
          go_wp2
          go_ret
          exact ⟨rfl, hbw2⟩
        | true =>
          obtain rfl : D = e4 := by rw [HE.out]; simp
          go_wp2
          go_ret
          exact ⟨rfl, hbw2⟩

set_option maxHeartbeats 2000000 in
set_option maxRecDepth 100000 in
theorem equal_sn (A A' : Option Addr) (n n' c c' : Nat) (l l' : List Snp) (S S' : List (Option Addr × Nat)) (w : World) (hn : n ≤ 9223372036854775807) (h : RdS w w.heap.size A n l S) (h' : RdS w w.heap.size A' n' l' S')
    (ht : ∀ a ∈ l, ∀ b ∈ a.tag, b < 256) (ht' : ∀ a ∈ l', ∀ b ∈ a.tag, b < 256) :
    Calls Try.prog 30 #[.slice A n c, .slice A' n' c', .func (.func 31) #[] #[]] w fun e w' => e = .returned (.bool (decide (l = l'))) ∧ Below w.heap.size w w' := by
  obtain ⟨V, hV⟩ : ∃ V, decide (l = l') = V := ⟨_, rfl⟩
  rw [hV]
  have HR := Lib.hid h
  have HR' := Lib.hid h'
  have HL := Lib.hid h.1
  have HL' := Lib.hid h'.1
  have HT := Lib.hid ht
  have HT' := Lib.hid ht'
  have HV := Lib.hid hV
  clear h h' ht ht' hV
  by_cases hnn : n = n'
  · subst hnn
    go_enter Try.func30, Try.ntmps30
    go_wp2
    go_loopw [17] (fun i wr => ∃ j : Nat, j ≤ n ∧ i = .int .i64 (j : Int) ∧ l.take j = l'.take j ∧ Below w.heap.size w wr) (fun i _ => n - (intOf i).toNat)
    case atStart => exact ⟨0, Nat.zero_le _, rfl, rfl, Below.refl _ _⟩
    case round =>
      obtain ⟨j, hj, rfl, hm, hb⟩ := hrel
      have HM := Lib.hid hm
      have hsz := hb.size
      clear hm
      by_cases hlt : j < n
      · obtain ⟨ad, a, s, rfl, hab, ha, _, g0, g1, g2, g3, g4, hrd, hs1, hs2⟩ := rds_get (HR.out.below hb) hlt
        obtain ⟨ad', a', t, rfl, hab', ha', _, q0, q1, q2, q3, q4, hrd', ht1, ht2⟩ := rds_get (HR'.out.below hb) hlt
        have hr : RdSn wr wr.heap.size a s := ⟨hrd.more hsz, hs1, hs2⟩
        have hr' : RdSn wr wr.heap.size a' t := ⟨hrd'.more hsz, ht1, ht2⟩
        have HA := Lib.hid ha
        have HA' := Lib.hid ha'
        obtain ⟨w1, hw1⟩ : ∃ w1 : World, w1 = wr.alloc (.cells #[.int .i64 a.id, .int .i64 a.set, .slice s.1 a.chunks.length s.2, .bool a.held, .string (strOf a.tag)] 38) := ⟨_, rfl⟩
        obtain ⟨w2, hw2⟩ : ∃ w2 : World, w2 = w1.alloc (.cells #[.int .i64 a'.id, .int .i64 a'.set, .slice t.1 a'.chunks.length t.2, .bool a'.held, .string (strOf a'.tag)] 38) := ⟨_, rfl⟩
        have hb1 : Below wr.heap.size wr w1 := by rw [hw1]; exact (Below.refl _ _).alloc (Nat.le_refl _) _
        have hb2 : Below wr.heap.size wr w2 := by rw [hw2]; exact hb1.alloc hb1.size _
        have hs12 : w1.heap.size = wr.heap.size + 1 := by rw [hw1]; simp
        have hk1 : Blk w2 wr.heap.size 38 (sncells a s).toArray := by rw [hw2]; exact Blk.alloc (by rw [hw1]; exact Blk.new _ _ _) _
        have hk2 : Blk w2 (wr.heap.size + 1) 38 (sncells a' t).toArray := by rw [hw2, ← hs12]; exact Blk.new _ _ _
        obtain ⟨x0, x1, x2, x3, x4⟩ := snblk_cells hk1
        obtain ⟨y0, y1, y2, y3, y4⟩ := snblk_cells hk2
        have HP1 := Lib.hid (show (ad'.add (j * 5)).block < wr.heap.size by rw [add_block]; omega)
        have p0 := (Below.cell hb1 (p := ad'.add (j * 5)) HP1.out).trans q0
        have p1 := (Below.cell hb1 (p := ⟨(ad'.add (j * 5)).block, (ad'.add (j * 5)).off + 1, none⟩) HP1.out).trans q1
        have p2 := (Below.cell hb1 (p := ⟨(ad'.add (j * 5)).block, (ad'.add (j * 5)).off + 2, none⟩) HP1.out).trans q2
        have p3 := (Below.cell hb1 (p := ⟨(ad'.add (j * 5)).block, (ad'.add (j * 5)).off + 3, none⟩) HP1.out).trans q3
        have p4 := (Below.cell hb1 (p := ⟨(ad'.add (j * 5)).block, (ad'.add (j * 5)).off + 4, none⟩) HP1.out).trans q4
        obtain ⟨D, hD⟩ : ∃ D, decide (a = a') = D := ⟨_, rfl⟩
        have HD := Lib.hid hD
        have HC := Lib.hid (show Calls Try.prog 31 #[.agg #[.int .i64 a.id, .int .i64 a.set, .slice s.1 a.chunks.length s.2, .bool a.held, .string (strOf a.tag)], .agg #[.int .i64 a'.id, .int .i64 a'.set, .slice t.1 a'.chunks.length t.2, .bool a'.held, .string (strOf a'.tag)]] w2 fun e w' => e = .returned (.bool D) ∧ Below w2.heap.size w2 w' by
          rw [← hD]; exact samesnap_c a a' s t w2 ((hr.below hb2).more hb2.size) ((hr'.below hb2).more hb2.size) (HT.out a (List.mem_of_getElem? ha)) (HT'.out a' (List.mem_of_getElem? ha')))
        have hbe := hb.trans (hb2.mono hsz)
        have HW1 := Lib.hid hw1
        have HW2 := Lib.hid hw2
        clear ha ha' hrd hrd' hr hr' hs1 hs2 ht1 ht2 hD hk1 hk2 hw1 hw2
        go_upto_region 6 with fail
        have HS12 := Lib.hid hs12
        clear hs12
        rw [show wr.alloc (.cells #[.int .i64 a.id, .int .i64 a.set, .slice s.1 a.chunks.length s.2, .bool a.held, .string (strOf a.tag)] 38) = w1 from HW1.out.symm]
        clear g0 g1 g2 g3 g4 q0 q1 q2 q3 q4
        go_upto_region 7 with fail
        rw [show w1.alloc (.cells #[.int .i64 a'.id, .int .i64 a'.set, .slice t.1 a'.chunks.length t.2, .bool a'.held, .string (strOf a'.tag)] 38) = w2 from HW2.out.symm, HS12.out]
        clear p0 p1 p2 p3 p4
        go_wp2_with fail
        refine HC.out.mono ?_
        rintro _ w3 ⟨rfl, hb3⟩
        have hbc := hbe.trans (hb3.mono hbe.size)
        clear x0 x1 x2 x3 x4 y0 y1 y2 y3 y4
        cases D with
        | true =>
          have haa := of_decide_eq_true HD.out
          have HE := Lib.hid (show l.take (j + 1) = l'.take (j + 1) by rw [List.take_add_one, List.take_add_one, HM.out, HA.out, HA'.out, haa])
          clear haa
          go_wp2
          go_roundw
          case rel => exact ⟨j + 1, by omega, by go_num, HE.out, hbc⟩
          case measure => simp [intOf]; omega
        | false =>
          have hv : V = false := by
            rw [← HV.out, decide_eq_false_iff_not]
            rintro rfl
            have e := HA.out.symm.trans HA'.out
            exact of_decide_eq_false HD.out (Option.some.inj e)
          have HVV := Lib.hid hv
          clear hv
          go_wp2
          go_ret
          exact ⟨by rw [HVV.out]; rfl, hbc⟩
      · obtain rfl : j = n := by omega
        have hv : V = true := by
          have := HM.out
          rw [List.take_of_length_le (by have := HL.out; omega), List.take_of_length_le (by have := HL'.out; omega)] at this
          rw [← HV.out, this]; simp
        have HVV := Lib.hid hv
        clear hv
        go_wp2
        go_ret
        exact ⟨by rw [HVV.out]; rfl, hb⟩
  · have q : ((n : Int) != (n' : Int)) = true := by rw [bne_iff_ne]; omega
    obtain rfl : V = false := by
      rw [← HV.out, decide_eq_false_iff_not]
      rintro rfl
      exact hnn (HL.out.symm.trans HL'.out)
    go_enter Try.func30, Try.ntmps30
    go_wp2
    go_ret
    exact ⟨rfl, Below.refl _ _⟩
end Go.Proofs.Ytdkjdiamekfbdaa
