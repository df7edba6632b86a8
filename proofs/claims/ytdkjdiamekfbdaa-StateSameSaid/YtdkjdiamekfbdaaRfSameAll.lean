/-
  The walk of the reference's SameAll: two rows of snapshots are the same.
-/
import Derived.Test.YtdkjdiamekfbdaaRfSame
import Derived.Test.YtdkjdiamekfbdaaSteady
namespace Go.Proofs.Ytdkjdiamekfbdaa
open Go.RowKit
open Rf (Snp)

set_option maxHeartbeats 2000000 in
set_option maxRecDepth 100000 in
theorem sameall_any (A A' : Option Addr) (n n' c c' : Nat) (l l' : List Snp) (S S' : List (Option Addr × Nat)) (w : World) (h : RdS w w.heap.size A n l S) (h' : RdS w w.heap.size A' n' l' S') (hnc : n ≤ c) (hmax : c ≤ 9223372036854775807) (hnc' : n' ≤ c') (_hmax' : c' ≤ 9223372036854775807)
    (ht : ∀ a ∈ l, ∀ b ∈ a.tag, b < 256) (ht' : ∀ a ∈ l', ∀ b ∈ a.tag, b < 256) :
    Calls Try.prog 49 #[.slice A n c, .slice A' n' c'] w fun e w' => e = .returned (.bool (decide (l = l'))) ∧ Below w.heap.size w w' := by
  obtain ⟨V, hV⟩ : ∃ V, decide (l = l') = V := ⟨_, rfl⟩
  rw [hV]
  have HR := Lib.hid h
  have HR' := Lib.hid h'
  have HL := Lib.hid h.1
  have HL' := Lib.hid h'.1
  have HT := Lib.hid ht
  have HT' := Lib.hid ht'
  have HV := Lib.hid hV
  clear h h' ht ht' hV
  by_cases hnn : n = n'
  · subst hnn
    go_enter Try.func49, Try.ntmps49
    go_wp2
    go_loopw [5] (fun i wr => ∃ j : Nat, j ≤ n ∧ i = .int .i64 (j : Int) ∧ l.take j = l'.take j ∧ Below w.heap.size w wr) (fun i _ => n - (intOf i).toNat)
    case atStart => exact ⟨0, Nat.zero_le _, rfl, rfl, Below.refl _ _⟩
    case round =>
      obtain ⟨j, hj, rfl, hm, hb⟩ := hrel
      have HM := Lib.hid hm
      have hsz := hb.size
      clear hm
      by_cases hlt : j < n
      · obtain ⟨ad, a, ⟨s1, s2⟩, rfl, hab, ha, hs, g0, g1, g2, g3, g4, hrd, hs1, hs2⟩ := rds_get (HR.out.below hb) hlt
        obtain ⟨ad', a', ⟨t1, t2⟩, rfl, hab', ha', hs', q0, q1, q2, q3, q4, hrd', ht1, ht2⟩ := rds_get (HR'.out.below hb) hlt
        have had0 : ad.block < wr.heap.size := by omega
        have had0' : ad'.block < wr.heap.size := by omega
        have hpl0 : (ad.add (j * 5)).block < wr.heap.size := by rw [add_block]; exact had0
        have hpl0' : (ad'.add (j * 5)).block < wr.heap.size := by rw [add_block]; exact had0'
        have HA := Lib.hid ha
        have HA' := Lib.hid ha'
        have hr : RdSn wr wr.heap.size a (s1, s2) := ⟨hrd.more hsz, hs1, hs2⟩
        have hr' : RdSn wr wr.heap.size a' (t1, t2) := ⟨hrd'.more hsz, ht1, ht2⟩
        have HRS := Lib.hid hr
        have HRS' := Lib.hid hr'
        have HB := Lib.hid (HT.out a (List.mem_of_getElem? ha))
        have HB' := Lib.hid (HT'.out a' (List.mem_of_getElem? ha'))
        clear ha ha' hs hs' hrd hrd' hr hr' hs1 hs2 ht1 ht2
        simp only at g2 q2
        obtain ⟨D, hD⟩ : ∃ D, decide (a = a') = D := ⟨_, rfl⟩
        have HD := Lib.hid hD
        clear hD
        go_upto_region 6 with fail
        go_cut [6] (fun b wx => b = .bool D ∧ Below wr.heap.size wr wx)
        case first =>
          refine wp_region_grew (n := 29) (Say [(18, isv (.slice (some ad) n c)), (19, isv (.int .i64 (j : Int))), (20, isv (.pointer (some (ad.add (j * 5))))), (21, isv (.agg #[.int .i64 a.id, .int .i64 a.set, .slice s1 a.chunks.length s2, .bool a.held, .string (strOf a.tag)])), (22, isv (.slice (some ad') n c')), (23, isv (.int .i64 (j : Int))), (24, isv (.pointer (some (ad'.add (j * 5))))), (25, isv (.agg #[.int .i64 a'.id, .int .i64 a'.set, .slice t1 a'.chunks.length t2, .bool a'.held, .string (strOf a'.tag)])), (26, isv (.bool D)), (6, isv (.bool D))]) (by kernel_rfl) (by kernel_rfl) rfl ⟨?_, ?_, ?_, ?_, ?_, ?_, ?_, ?_, ?_, ?_, trivial⟩ ?_
          · exact owed_move rfl rfl (.inl rfl) fun fr w _ hK => known_out hK 0 (by kernel_rfl)
          · exact owed_move rfl rfl (.inl rfl) fun fr w _ hK => known_out hK 5 (by kernel_rfl)
          · refine owed_val _ rfl rfl (fun _ => rfl) fun fr w hC hK => ?_
            have k18 : slot fr 18 = .slice (some ad) n c := known_in hK 18 (by kernel_rfl)
            have k19 : slot fr 19 = .int .i64 (j : Int) := known_in hK 19 (by kernel_rfl)
            clear hK
            unfold slot at k18 k19
            have f2 : ¬ n ≤ j := by omega
            go_simp
          · refine owed_val _ rfl rfl (fun _ => rfl) fun fr w hC hK => ?_
            have k20 : slot fr 20 = .pointer (some (ad.add (j * 5))) := known_in hK 20 (by kernel_rfl)
            clear hK
            unfold slot at k20
            have x0 := (Below.cell hC (p := ad.add (j * 5)) hpl0).trans g0
            have x1 := (Below.cell hC (p := ⟨(ad.add (j * 5)).block, (ad.add (j * 5)).off + 1, none⟩) hpl0).trans g1
            have x2 := (Below.cell hC (p := ⟨(ad.add (j * 5)).block, (ad.add (j * 5)).off + 2, none⟩) hpl0).trans g2
            have x3 := (Below.cell hC (p := ⟨(ad.add (j * 5)).block, (ad.add (j * 5)).off + 3, none⟩) hpl0).trans g3
            have x4 := (Below.cell hC (p := ⟨(ad.add (j * 5)).block, (ad.add (j * 5)).off + 4, none⟩) hpl0).trans g4
            go_simp
          · exact owed_move rfl rfl (.inl rfl) fun fr w _ hK => known_out hK 1 (by kernel_rfl)
          · exact owed_move rfl rfl (.inl rfl) fun fr w _ hK => known_out hK 5 (by kernel_rfl)
          · refine owed_val _ rfl rfl (fun _ => rfl) fun fr w hC hK => ?_
            have k22 : slot fr 22 = .slice (some ad') n c' := known_in hK 22 (by kernel_rfl)
            have k23 : slot fr 23 = .int .i64 (j : Int) := known_in hK 23 (by kernel_rfl)
            clear hK
            unfold slot at k22 k23
            have f2 : ¬ n ≤ j := by omega
            go_simp
          · refine owed_val _ rfl rfl (fun _ => rfl) fun fr w hC hK => ?_
            have k24 : slot fr 24 = .pointer (some (ad'.add (j * 5))) := known_in hK 24 (by kernel_rfl)
            clear hK
            unfold slot at k24
            have x0 := (Below.cell hC (p := ad'.add (j * 5)) hpl0').trans q0
            have x1 := (Below.cell hC (p := ⟨(ad'.add (j * 5)).block, (ad'.add (j * 5)).off + 1, none⟩) hpl0').trans q1
            have x2 := (Below.cell hC (p := ⟨(ad'.add (j * 5)).block, (ad'.add (j * 5)).off + 2, none⟩) hpl0').trans q2
            have x3 := (Below.cell hC (p := ⟨(ad'.add (j * 5)).block, (ad'.add (j * 5)).off + 3, none⟩) hpl0').trans q3
            have x4 := (Below.cell hC (p := ⟨(ad'.add (j * 5)).block, (ad'.add (j * 5)).off + 4, none⟩) hpl0').trans q4
            go_simp
          · refine owed_plain rfl rfl fun fr w hC hK K hk => ?_
            have k21 : slot fr 21 = .agg #[.int .i64 a.id, .int .i64 a.set, .slice s1 a.chunks.length s2, .bool a.held, .string (strOf a.tag)] := known_in hK 21 (by kernel_rfl)
            have k25 : slot fr 25 = .agg #[.int .i64 a'.id, .int .i64 a'.set, .slice t1 a'.chunks.length t2, .bool a'.held, .string (strOf a'.tag)] := known_in hK 25 (by kernel_rfl)
            clear hK
            unfold slot at k21 k25
            go_simp
            refine (sames_any a a' (s1, s2) (t1, t2) w ((HRS.out.below hC).more hC.size) ((HRS'.out.below hC).more hC.size) HB.out HB'.out).mono ?_
            rintro e w' ⟨rfl, hb1⟩
            exact hk _ _ hb1 (by show Value.bool _ = _; rw [HD.out])
          · exact owed_move rfl rfl (.inr rfl) fun fr w _ hK => known_in hK 26 (by kernel_rfl)
          intro vs w' hg hgood
          have h6 : vs 6 = .bool D := hgood.2.2.2.2.2.2.2.2.2.1
          clear hgood
          simp only [putsOf]
          rw [h6]
          go_simp
          go_wp2
          go_meet
          case rel => exact ⟨rfl, hg⟩
        case rest =>
          obtain ⟨rfl, hb3⟩ := hcut
          have hbc := hb.trans (hb3.mono hsz)
          cases D with
          | true =>
            have haa := of_decide_eq_true HD.out
            have HE := Lib.hid (show l.take (j + 1) = l'.take (j + 1) by rw [List.take_add_one, List.take_add_one, HM.out, HA.out, HA'.out, haa])
            clear g0 g1 g2 g3 g4 q0 q1 q2 q3 q4 haa
            go_wp2
            go_roundw
            case rel => exact ⟨j + 1, by omega, by go_num, HE.out, hbc⟩
            case measure => simp [intOf]; omega
          | false =>
            have hv : V = false := by
              rw [← HV.out, decide_eq_false_iff_not]
              rintro rfl
              have e := HA.out.symm.trans HA'.out
              exact of_decide_eq_false HD.out (Option.some.inj e)
            have HVV := Lib.hid hv
            clear hv g0 g1 g2 g3 g4 q0 q1 q2 q3 q4
            go_wp2
            go_ret
            exact ⟨by rw [HVV.out]; rfl, hbc⟩
      · obtain rfl : j = n := by omega
        have hv : V = true := by
          have := HM.out
          rw [List.take_of_length_le (by have := HL.out; omega), List.take_of_length_le (by have := HL'.out; omega)] at this
          rw [← HV.out, this]; simp
        have HVV := Lib.hid hv
        clear hv
        go_wp2
        go_ret
        exact ⟨by rw [HVV.out]; rfl, hb⟩
  · have q : ((n : Int) != (n' : Int)) = true := by rw [bne_iff_ne]; omega
    obtain rfl : V = false := by
      rw [← HV.out, decide_eq_false_iff_not]
      rintro rfl
      exact hnn (HL.out.symm.trans HL'.out)
    go_enter Try.func49, Try.ntmps49
    go_wp2
    go_ret
    exact ⟨rfl, Below.refl _ _⟩
end Go.Proofs.Ytdkjdiamekfbdaa
