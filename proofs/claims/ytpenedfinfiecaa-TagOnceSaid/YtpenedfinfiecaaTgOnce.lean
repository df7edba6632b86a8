/-
  The walk of the law that unlike fields have unlike tags.
-/
import Derived.Test.YtpenedfinfiecaaTgAll
import Derived.Test.YtpenedfinfiecaaSteady
import Derived.Deep.DeepCutAuto
namespace Go.Proofs.Ytpenedfinfiecaa.Tg
open Go.RowKit
open Go.Proofs.Ytpenedfinfiecaa.Vi (put take put_len put_byte take_put take_put0)

theorem and_mask (a : Int) : bits .and .i64 a 1023 = a % 1024 := by
  show IntKind.i64.wrap ((BitVec.ofInt 64 a &&& BitVec.ofInt 64 1023).toNat : Int) = _
  have h1 : (BitVec.ofInt 64 a).toNat = (a % 18446744073709551616).toNat := by simp
  have h2 : (BitVec.ofInt 64 1023).toNat = 1023 := rfl
  rw [BitVec.toNat_and, h1, h2, nat_mask10, IntKind.wrap_i64]
  omega

/-- None begins another one. -/
theorem put_free (N M n : Nat) (hN : N < 18446744073709551616) (hM : M < 18446744073709551616) (hn : n = min (put N).length (put M).length) : decide ((put N).take n = (put M).take n) = decide (N = M) := by
  by_cases h : N = M
  · subst h; simp
  · rw [decide_eq_false h, decide_eq_false]
    intro he
    apply h
    rcases Nat.le_total (put N).length (put M).length with hl | hl
    · have e1 : n = (put N).length := by omega
      rw [e1, List.take_length] at he
      have h2 := List.take_append_drop (put N).length (put M)
      rw [← he] at h2
      have h1 := take_put N ((put M).drop (put N).length) hN
      rw [h2, take_put0 M hM] at h1
      exact (congrArg Prod.fst h1).symm
    · have e1 : n = (put M).length := by omega
      rw [e1, List.take_length] at he
      have h2 := List.take_append_drop (put M).length (put N)
      rw [he] at h2
      have h1 := take_put M ((put N).drop (put M).length) hM
      rw [h2, take_put0 N hN] at h1
      exact congrArg Prod.fst h1

def wireOf (b : Bool) : Int := if b then 0 else 2

set_option maxHeartbeats 4000000 in
set_option maxRecDepth 100000 in
theorem once_any (a b : Int) (b0 b1 : Bool) (w : World) (a0 : -9223372036854775808 ≤ a) (a1 : a ≤ 9223372036854775807) (c0 : -9223372036854775808 ≤ b) (c1 : b ≤ 9223372036854775807) :
    Calls Try.prog 6 #[.int .i64 a, .int .i64 b, .agg #[.bool b0, .bool b1]] w fun e w' => e = .returned (.bool true) ∧ Below w.heap.size w w' := by
  have m1 := and_mask a
  have m2 := and_mask b
  go_enter Try.func6, Try.ntmps6
  go_wp2_with fail
  obtain ⟨w0, hw0⟩ : ∃ w0 : World, w0 = w.alloc (.cells #[.bool b0, .bool b1] 38) := ⟨_, rfl⟩
  have hk0 : Blk w0 w.heap.size 38 #[.bool b0, .bool b1] := by rw [hw0]; exact Blk.new _ _ _
  have hb0 : Below w.heap.size w w0 := by rw [hw0]; exact (Below.refl _ _).alloc (Nat.le_refl _) _
  have hs0 : w.heap.size < w0.heap.size := by rw [hw0]; simp
  rw [← hw0]
  clear hw0
  refine (shown_any _).mono ?_
  rintro e w1 ⟨rfl, hb1⟩
  have hk1 := hk0.below hb1 hs0
  have hs1 := hb1.size
  have hbw1 := hb0.trans (hb1.mono (Nat.le_of_lt hs0))
  have HK1 := Lib.hid hk1
  clear hk1 hk0
  go_upto_region 4 with fail
  go_cut [10] (fun p wx => p = .pointer (some ⟨w1.heap.size, 0, none⟩) ∧ Blk wx w1.heap.size 39 #[.int .i64 2, .int .i64 2] ∧ Below w1.heap.size w1 wx)
  case first =>
    go_wp2
    go_meet
    case rel => exact ⟨rfl, Blk.new _ _ _, (Below.refl _ _).alloc (Nat.le_refl _) _⟩
  case rest =>
    obtain ⟨rfl, hk, hbc⟩ := hcut
    have HK := Lib.hid hk
    clear hk
    have hx := (by omega : 1 ≤ 1 + a % 1024 % 1000 ∧ 1 + a % 1024 % 1000 ≤ 1000)
    have hy := (by omega : 1 ≤ 1 + b % 1024 % 1000 ∧ 1 + b % 1024 % 1000 ≤ 1000)
    generalize 1 + a % 1024 % 1000 = x at *
    generalize 1 + b % 1024 % 1000 = y at *
    clear m1 m2 a0 a1 c0 c1
    go_wp2
    go_loopw [11] (fun i wr => ∃ j : Nat, j ≤ 2 ∧ i = .int .i64 (j : Int) ∧ Blk wr w1.heap.size 39 #[.int .i64 (if 0 < j then wireOf b0 else 2), .int .i64 (if 1 < j then wireOf b1 else 2)] ∧ Below w1.heap.size w1 wr) (fun i _ => 2 - (intOf i).toNat)
    case atStart => exact ⟨0, by omega, rfl, by simpa using HK.out, hbc⟩
    case round =>
      obtain ⟨j, hj, rfl, hkr, hbr⟩ := hrel
      have HKR := Lib.hid hkr
      have hkb := HK1.out.below hbr (by omega)
      clear hkr
      by_cases h0 : j = 0
      · subst h0
        rw [show ((0 : Nat) : Int) = 0 from rfl]
        have f0 := hkb.cell 0
        have f1 := HKR.out.cell 0
        have f2 := HKR.out.frozen 0
        simp at f0 f1
        cases b0
        all_goals
          go_wp2
          go_roundw
          case rel =>
            refine ⟨1, by omega, by go_num, ?_, ?_⟩
            · first
                | (have h1 := HKR.out.put 0 (.int .i64 0); simpa [wireOf] using h1)
                | (have h1 := HKR.out; simpa [wireOf] using h1)
            · first
                | exact hbr.setCell (by simp) _
                | exact hbr
          case measure => simp [intOf]
      · by_cases h1 : j = 1
        · subst h1
          rw [show ((1 : Nat) : Int) = 1 from rfl]
          have f0 := hkb.cell 1
          have f1 := HKR.out.cell 1
          have f2 := HKR.out.frozen 1
          simp at f0 f1
          cases b1
          all_goals
            go_wp2
            go_roundw
            case rel =>
              refine ⟨2, by omega, by go_num, ?_, ?_⟩
              · first
                  | (have h1 := HKR.out.put 1 (.int .i64 0); simpa [wireOf] using h1)
                  | (have h1 := HKR.out; simpa [wireOf] using h1)
              · first
                  | exact hbr.setCell (by simp) _
                  | exact hbr
            case measure => simp [intOf]
        · obtain rfl : j = 2 := by omega
          rw [show ((2 : Nat) : Int) = 2 from rfl]
          have hp : wireOf b0 = 0 ∨ wireOf b0 = 2 := by cases b0 <;> simp [wireOf]
          have hq : wireOf b1 = 0 ∨ wireOf b1 = 2 := by cases b1 <;> simp [wireOf]
          have fa := HKR.out.cell 0
          have fb := HKR.out.cell 1
          simp at fa fb
          have hlt3 := HKR.out.lt
          clear hkb HK HKR
          generalize wireOf b0 = p at *
          generalize wireOf b1 = q at *
          have hop : okTag x p = true := okTag_iff.2 ⟨hx.1, hx.2, hp⟩
          have hoq : okTag y q = true := okTag_iff.2 ⟨hy.1, hy.2, hq⟩
          have hlp := tput_len hop
          have hlq := tput_len hoq
          have hpb := tput_byte x p
          have hqb := tput_byte y q
          have hfree := put_free (8 * x + p).toNat (8 * y + q).toNat (min (tput x p).1.length (tput y q).1.length) (by omega) (by omega) (by rw [tput_ok hop, tput_ok hoq])
          have hNM : decide ((8 * x + p).toNat = (8 * y + q).toNat) = decide (x = y ∧ p = q) := by
            congr 1
            refine propext ⟨fun h => ⟨by omega, by omega⟩, fun ⟨h1, h2⟩ => by rw [h1, h2]⟩
          rw [hNM] at hfree
          have hfree2 : decide ((tput x p).1.take (min (tput x p).1.length (tput y q).1.length) = (tput y q).1.take (min (tput x p).1.length (tput y q).1.length)) = decide (x = y ∧ p = q) := by
            rw [← hfree, tput_ok hop, tput_ok hoq]
          obtain ⟨pb, hpbe⟩ : ∃ pb, tput x p = (pb, 0) := ⟨(tput x p).1, Prod.ext rfl (by rw [tput_ok hop])⟩
          obtain ⟨qb, hqbe⟩ : ∃ qb, tput y q = (qb, 0) := ⟨(tput y q).1, Prod.ext rfl (by rw [tput_ok hoq])⟩
          rw [hpbe] at hlp hpb hfree2
          rw [hqbe] at hlq hqb hfree2
          simp only [] at hlp hlq hpb hqb hfree2
          have HPE := Lib.hid hpbe
          have HQE := Lib.hid hqbe
          have HPB := Lib.hid hpb
          have HQB := Lib.hid hqb
          obtain ⟨D, hD⟩ : ∃ D, decide (x = y ∧ p = q) = D := ⟨_, rfl⟩
          rw [hD] at hfree2
          clear hfree hNM hpbe hqbe hpb hqb hop hoq
          generalize hlpe : pb.length = lp at *
          generalize hlqe : qb.length = lq at *
          have HLP := Lib.hid hlpe
          have HLQ := Lib.hid hlqe
          have HDF := Lib.hid hfree2
          have HDD := Lib.hid hD
          have hl1 : 1 ≤ lp ∧ lp ≤ 2 := by split at hlp <;> omega
          have hl2 : 1 ≤ lq ∧ lq ≤ 2 := by split at hlq <;> omega
          obtain ⟨E, hE⟩ : ∃ E, decide (x < 16) = E := ⟨_, rfl⟩
          have hE1 : ((lp : Int) == 1) = E := by
            rw [← hE]
            by_cases hx16 : x < 16
            · rw [if_pos hx16] at hlp; simp [hx16, hlp]
            · rw [if_neg hx16] at hlp; simp [hx16, hlp]
          have HE1 := Lib.hid hE1
          have HE2 := Lib.hid hE
          clear hlpe hlqe hfree2 hD hlp hlq hE hE1
          have hbwr := hbw1.trans (hbr.mono hbw1.size)
          go_wp2_with fail
          refine (put_tag x p _ (by omega) (by omega) (by omega) (by omega)).mono ?_
          rintro e w3 ⟨v, rfl, hown, hb3⟩
          rw [HPE.out] at hown ⊢
          replace hown : w3.ownsRow wr.heap.size 5 1 v lp (bvs pb) := by have h1 := hown; simp only [HLP.out] at h1; exact h1
          obtain ⟨A3, c3, rfl, hc3, hc32⟩ := slice_of_own hown
          have HO3' := Lib.hid (Rd.of_own hown)
          have hs3 := hb3.size
          have fb3 : w3.cell? ⟨w1.heap.size, 1, none⟩ = some (.int .i64 q) := (hb3.cell (p := ⟨w1.heap.size, 1, none⟩) hlt3).trans fb
          have fa3 : w3.cell? ⟨w1.heap.size, 0, none⟩ = some (.int .i64 p) := (hb3.cell (p := ⟨w1.heap.size, 0, none⟩) hlt3).trans fa
          clear hown fa fb
          go_wp2_with fail
          refine (put_tag y q _ (by omega) (by omega) (by omega) (by omega)).mono ?_
          rintro e w4 ⟨v, rfl, hown, hb4⟩
          rw [HQE.out] at hown ⊢
          replace hown : w4.ownsRow w3.heap.size 5 1 v lq (bvs qb) := by have h1 := hown; simp only [HLQ.out] at h1; exact h1
          obtain ⟨A4, c4, rfl, hc4, hc42⟩ := slice_of_own hown
          have HO4 := Lib.hid (Rd.of_own hown)
          have HO3 := Lib.hid ((HO3'.out.below hb4).more hb4.size)
          have fb4 : w4.cell? ⟨w1.heap.size, 1, none⟩ = some (.int .i64 q) := (hb4.cell (p := ⟨w1.heap.size, 1, none⟩) (by show w1.heap.size < w3.heap.size; omega)).trans fb3
          have fa4 : w4.cell? ⟨w1.heap.size, 0, none⟩ = some (.int .i64 p) := (hb4.cell (p := ⟨w1.heap.size, 0, none⟩) (by show w1.heap.size < w3.heap.size; omega)).trans fa3
          have hbw4 := (hbwr.trans (hb3.mono hbwr.size)).trans (hb4.mono (Nat.le_trans hbwr.size hs3))
          have hs4 := hb4.size
          clear hown fa3 fb3
          go_upto_region 15 with fail
          first
            | rw [show (if lq < lp then (lq : Int) else (lp : Int)) = ((min lp lq : Nat) : Int) by split <;> omega]
            | rw [show min (lp : Int) (lq : Int) = ((min lp lq : Nat) : Int) by omega]
          obtain ⟨m, hm⟩ : ∃ m, m = min lp lq := ⟨_, rfl⟩
          have hm1 : m ≤ lp ∧ m ≤ lq := by omega
          have HD := Lib.hid (by rw [hm]; exact HDF.out : decide (pb.take m = qb.take m) = D)
          rw [← hm]
          clear hm
          go_cut [17] (fun b wx => b = .bool D ∧ wx = w4)
          case first =>
            by_cases hxy : x = y
            · have q1 : (x == y) = true := by rw [hxy]; simp
              by_cases hpq : p = q
              · have q2 : (p == q) = true := by rw [hpq]; simp
                have hd : D = true := by rw [← HDD.out]; simp [hxy, hpq]
                clear hxy hpq
                subst hd
                go_wp2
                go_meet
                case rel => exact ⟨rfl, rfl⟩
              · have q2 : (p == q) = false := beq_eq_false_iff_ne.2 hpq
                have hd : D = false := by rw [← HDD.out]; simp [hpq]
                clear hxy hpq
                subst hd
                go_wp2
                go_meet
                case rel => exact ⟨rfl, rfl⟩
            · have q1 : (x == y) = false := beq_eq_false_iff_ne.2 hxy
              have hd : D = false := by rw [← HDD.out]; simp [hxy]
              clear hxy
              subst hd
              go_wp2
              go_meet
              case rel => exact ⟨rfl, rfl⟩
          case rest =>
            obtain ⟨rfl, rfl⟩ := hcut
            go_wp2
            refine wp_region_grew (n := 104) (Say [(82, isv (.bool true)), (83, isv (.bool true)), (84, isv (.slice A3 lp c3)), (85, isv (.int .i64 (m : Int))), (86, isv (.slice A3 m c3)), (87, isv (.string (strOf (pb.take m)))), (88, isv (.slice A4 lq c4)), (89, isv (.int .i64 (m : Int))), (90, isv (.slice A4 m c4)), (91, isv (.string (strOf (qb.take m)))), (92, isv (.bool D)), (93, isv (.bool D)), (94, isv (.bool true)), (95, isv (.bool true)), (96, isv (.bool true)), (97, isv (.slice A3 lp c3)), (98, isv (.int .i64 (lp : Int))), (99, isv (.bool E)), (100, isv (.int .i64 x)), (101, isv (.bool E)), (102, isv (.bool true)), (103, isv (.bool true)), (6, isv (.bool true))]) (by kernel_rfl) (by kernel_rfl) rfl ⟨?_, ?_, ?_, ?_, ?_, ?_, ?_, ?_, ?_, ?_, ?_, ?_, ?_, ?_, ?_, ?_, ?_, ?_, ?_, ?_, ?_, ?_, ?_, trivial⟩ ?_
            · exact owed_move rfl rfl (.inl rfl) fun fr w _ hK => known_out hK 7 (by kernel_rfl)
            · exact owed_move rfl rfl (.inl rfl) fun fr w _ hK => known_in hK 82 (by kernel_rfl)
            · exact owed_movew rfl rfl rfl (by kernel_rfl) (fun _ _ h => h) (.inl rfl) fun fr w _ hK => known_out hK 12 (by kernel_rfl)
            · exact owed_movew rfl rfl rfl (by kernel_rfl) (fun _ _ h => h) (.inl rfl) fun fr w _ hK => known_out hK 16 (by kernel_rfl)
            · refine owed_wval _ rfl rfl rfl (by kernel_rfl) (fun _ _ h => h) (fun _ => rfl) fun fr w hC hK => ?_
              have k84 : slot fr 84 = .slice A3 lp c3 := known_in hK 84 (by kernel_rfl)
              have k85 : slot fr 85 = .int .i64 (m : Int) := known_in hK 85 (by kernel_rfl)
              clear hK
              unfold slot at k84 k85
              have f1 : (0 : Int) ≤ (m : Int) := by omega
              have f2 : (m : Int) ≤ (c3 : Int) := by omega
              go_simp
            · refine owed_wval _ rfl rfl rfl (by kernel_rfl) (fun _ _ h => h) (fun _ => rfl) fun fr w hC hK => ?_
              have k86 : slot fr 86 = .slice A3 m c3 := known_in hK 86 (by kernel_rfl)
              clear hK
              unfold slot at k86
              have r1 : Rd w wc.heap.size 1 A3 m (bvs (pb.take m)) := (HO3.out.below hC).bytes_to (by omega)
              have s := run_str (P := Try.prog) w 22 9 5 Try.underlying22 Try.underlying5 Try.underlying9 r1 c3
              go_simp
            · exact owed_movew rfl rfl rfl (by kernel_rfl) (fun _ _ h => h) (.inl rfl) fun fr w _ hK => known_out hK 14 (by kernel_rfl)
            · exact owed_movew rfl rfl rfl (by kernel_rfl) (fun _ _ h => h) (.inl rfl) fun fr w _ hK => known_out hK 16 (by kernel_rfl)
            · refine owed_wval _ rfl rfl rfl (by kernel_rfl) (fun _ _ h => h) (fun _ => rfl) fun fr w hC hK => ?_
              have k88 : slot fr 88 = .slice A4 lq c4 := known_in hK 88 (by kernel_rfl)
              have k89 : slot fr 89 = .int .i64 (m : Int) := known_in hK 89 (by kernel_rfl)
              clear hK
              unfold slot at k88 k89
              have f1 : (0 : Int) ≤ (m : Int) := by omega
              have f2 : (m : Int) ≤ (c4 : Int) := by omega
              go_simp
            · refine owed_wval _ rfl rfl rfl (by kernel_rfl) (fun _ _ h => h) (fun _ => rfl) fun fr w hC hK => ?_
              have k90 : slot fr 90 = .slice A4 m c4 := known_in hK 90 (by kernel_rfl)
              clear hK
              unfold slot at k90
              have r1 : Rd w wc.heap.size 1 A4 m (bvs (qb.take m)) := (HO4.out.below hC).bytes_to (by omega)
              have s := run_str (P := Try.prog) w 22 9 5 Try.underlying22 Try.underlying5 Try.underlying9 r1 c4
              go_simp
            · refine owed_wval _ rfl rfl rfl (by kernel_rfl) (fun _ _ h => h) (fun _ => rfl) fun fr w hC hK => ?_
              have k87 : slot fr 87 = .string (strOf (pb.take m)) := known_in hK 87 (by kernel_rfl)
              have k91 : slot fr 91 = .string (strOf (qb.take m)) := known_in hK 91 (by kernel_rfl)
              clear hK
              unfold slot at k87 k91
              have f1 := str_beq (a := pb.take m) (b := qb.take m) (fun d hd => HPB.out d (List.mem_of_mem_take hd)) (fun d hd => HQB.out d (List.mem_of_mem_take hd))
              have f2 := HD.out
              go_simp
            · exact owed_movew rfl rfl rfl (by kernel_rfl) (fun _ _ h => h) (.inl rfl) fun fr w _ hK => known_out hK 17 (by kernel_rfl)
            · refine owed_wval _ rfl rfl rfl (by kernel_rfl) (fun _ _ h => h) (fun _ => rfl) fun fr w hC hK => ?_
              have k92 : slot fr 92 = .bool D := known_in hK 92 (by kernel_rfl)
              have k93 : slot fr 93 = .bool D := known_in hK 93 (by kernel_rfl)
              clear hK
              unfold slot at k92 k93
              go_simp
            · refine owed_val _ rfl rfl (fun _ => rfl) fun fr w hC hK => ?_
              have k83 : slot fr 83 = .bool true := known_in hK 83 (by kernel_rfl)
              have k94 : slot fr 94 = .bool true := known_in hK 94 (by kernel_rfl)
              clear hK
              unfold slot at k83 k94
              go_simp
            · exact owed_move rfl rfl (.inl rfl) fun fr w _ hK => known_in hK 95 (by kernel_rfl)
            · exact owed_movew rfl rfl rfl (by kernel_rfl) (fun _ _ h => h) (.inl rfl) fun fr w _ hK => known_out hK 12 (by kernel_rfl)
            · refine owed_wval _ rfl rfl rfl (by kernel_rfl) (fun _ _ h => h) (fun _ => rfl) fun fr w hC hK => ?_
              have k97 : slot fr 97 = .slice A3 lp c3 := known_in hK 97 (by kernel_rfl)
              clear hK
              unfold slot at k97
              go_simp
            · refine owed_wval _ rfl rfl rfl (by kernel_rfl) (fun _ _ h => h) (fun _ => rfl) fun fr w hC hK => ?_
              have k98 : slot fr 98 = .int .i64 (lp : Int) := known_in hK 98 (by kernel_rfl)
              clear hK
              unfold slot at k98
              have f1 := HE1.out
              go_simp
            · exact owed_movew rfl rfl rfl (by kernel_rfl) (fun _ _ h => h) (.inl rfl) fun fr w _ hK => known_out hK 8 (by kernel_rfl)
            · refine owed_wval _ rfl rfl rfl (by kernel_rfl) (fun _ _ h => h) (fun _ => rfl) fun fr w hC hK => ?_
              have k100 : slot fr 100 = .int .i64 x := known_in hK 100 (by kernel_rfl)
              clear hK
              unfold slot at k100
              have f1 := HE2.out
              go_simp
            · refine owed_wval _ rfl rfl rfl (by kernel_rfl) (fun _ _ h => h) (fun _ => rfl) fun fr w hC hK => ?_
              have k99 : slot fr 99 = .bool E := known_in hK 99 (by kernel_rfl)
              have k101 : slot fr 101 = .bool E := known_in hK 101 (by kernel_rfl)
              clear hK
              unfold slot at k99 k101
              go_simp
            · refine owed_val _ rfl rfl (fun _ => rfl) fun fr w hC hK => ?_
              have k96 : slot fr 96 = .bool true := known_in hK 96 (by kernel_rfl)
              have k102 : slot fr 102 = .bool true := known_in hK 102 (by kernel_rfl)
              clear hK
              unfold slot at k96 k102
              go_simp
            · exact owed_move rfl rfl (.inr rfl) fun fr w _ hK => known_in hK 103 (by kernel_rfl)
            intro vs w' hg hgood
            have h6 : vs 6 = .bool true := hgood.2.2.2.2.2.2.2.2.2.2.2.2.2.2.2.2.2.2.2.2.2.2.1
            clear hgood
            simp only [putsOf]
            go_simp
            go_wp2
            go_ret
            exact ⟨rfl, hbw4.trans (hg.mono hbw4.size)⟩
end Go.Proofs.Ytpenedfinfiecaa.Tg
