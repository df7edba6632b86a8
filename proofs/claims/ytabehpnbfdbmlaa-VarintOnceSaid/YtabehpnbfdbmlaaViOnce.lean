/-
  The walk of the law that bytes that are a number are those that it is laid down as.
-/
import Derived.Test.YtabehpnbfdbmlaaViShown
import Derived.Deep.DeepCutAuto
namespace Go.Proofs.Ytabehpnbfdbmlaa.Vi
open Go.RowKit

theorem any_snoc {xs : List Nat} {j c : Nat} {p : Nat → Bool} (h : xs[j]? = some c) : (xs.take (j + 1)).any p = ((xs.take j).any p || p c) := by
  rw [List.take_add_one, h]; simp
theorem any_no {xs : List Nat} (h : ∀ c ∈ xs, 128 ≤ c) (j : Nat) : (xs.take j).any (fun c => decide (c < 128)) = false := by
  rw [List.any_eq_false]
  intro c hc
  have := h c (List.mem_of_mem_take hc)
  simpa using this

set_option maxHeartbeats 4000000 in
set_option maxRecDepth 100000 in
theorem once_any (A : Option Addr) (len cap : Nat) (bs : List Nat) (w : World) (hb : ∀ c ∈ bs, c < 256) (h : Rd w w.heap.size 1 A len (bvs bs)) (hlc : len ≤ cap) (hcap : cap ≤ 9223372036854775807) :
    Calls Try.prog 5 #[.slice A len cap] w fun e w' => e = .returned (.bool true) ∧ Below w.heap.size w w' := by
  have HB := Lib.hid hb
  have HR := Lib.hid h
  clear hb h
  go_enter Try.func5, Try.ntmps5
  go_upto_if 12 with (go_at_call 8; refine (shown_any _).mono ?_; rintro e w1 ⟨rfl, hb1⟩)
  go_cut [0] (fun b wx => ∃ L : Nat, L ≤ len ∧ L ≤ 30 ∧ b = .slice A L cap ∧ wx = w1)
  case first =>
    by_cases hl : 30 < len
    · have e1 : (30 : Int) ≤ (cap : Int) := by omega
      go_wp2
      go_meet
      case rel => exact ⟨30, by omega, by omega, rfl, rfl⟩
    · go_wp2
      go_meet
      case rel => exact ⟨len, by omega, by omega, rfl, rfl⟩
  case rest =>
    obtain ⟨L, hL, hL30, rfl, rfl⟩ := hcut
    have hr1 : Rd wc w.heap.size 1 A L (bvs (bs.take L)) := by
      have h1 := (HR.out.below hb1).take hL
      rw [Nat.mul_one] at h1
      simpa [bvs, List.map_take] using h1
    have hbt : ∀ c ∈ bs.take L, c < 256 := fun c hc => HB.out c (List.mem_of_mem_take hc)
    obtain ⟨xs, hxs⟩ : ∃ xs, xs = bs.take L := ⟨_, rfl⟩
    rw [← hxs] at hr1 hbt
    clear hxs HR
    have hlen0 : xs.length = L := by have := hr1.1; rw [bvs_len] at this; omega
    have HLEN := Lib.hid hlen0
    clear hlen0
    have HR1 := Lib.hid hr1
    have HB1 := Lib.hid hbt
    clear hr1 hbt
    rcases take_err xs with he | ⟨he, hlen, hall⟩ | ⟨he, hno⟩
    · -- a number
      obtain ⟨x, i, hx⟩ : ∃ x i, take xs = (x, i, 0) := ⟨_, _, Prod.ext rfl (Prod.ext rfl he)⟩
      obtain ⟨hx64, hi1, hiL, hput⟩ := take_back xs x i HB1.out hx
      have hiL : i ≤ L := by have := HLEN.out; omega
      have ht : taken (take xs) = .tuple #[.int .u64 (x : Int), .int .i64 (i : Int), .int .i64 0] := by rw [hx]; rfl
      have HT := Lib.hid ht
      have hpx : ((strOf (put x)).toList == (strOf (xs.take i)).toList) = true := by rw [hput]; simp
      have HPX := Lib.hid hpx
      clear ht hx he hput hpx
      go_wp2_with fail
      refine (take_any A L _ _ xs _ HB1.out HR1.out (by omega)).mono ?_
      rintro e' w2 ⟨rfl, rfl⟩
      rw [HT.out]
      have hsz := hb1.size
      go_wp2
      refine wp_region_grew (n := 91) (Say [(70, isv (.bool true)), (71, isv (.bool true)), (72, isv (.int .i64 (i : Int))), (73, isv (.bool true)), (74, isv (.bool true)), (75, isv (.bool true)), (76, isv (.int .i64 (i : Int))), (77, isv (.slice A L cap)), (78, isv (.int .i64 (L : Int))), (79, isv (.bool true)), (80, isv (.bool true)), (81, isv (.bool true)), (82, isv (.int .u64 (x : Int))), (83, istxt (put x)), (84, isv (.string (strOf (put x)))), (85, isv (.slice A L cap)), (86, isv (.int .i64 (i : Int))), (87, isv (.slice A i cap)), (88, isv (.string (strOf (xs.take i)))), (89, isv (.bool true)), (90, isv (.bool true)), (2, isv (.bool true))]) (by kernel_rfl) (by kernel_rfl) rfl ⟨?_, ?_, ?_, ?_, ?_, ?_, ?_, ?_, ?_, ?_, ?_, ?_, ?_, ?_, ?_, ?_, ?_, ?_, ?_, ?_, ?_, ?_, trivial⟩ ?_
      · exact owed_move rfl rfl (.inl rfl) fun fr w _ hK => known_out hK 3 (by kernel_rfl)
      · exact owed_move rfl rfl (.inl rfl) fun fr w _ hK => known_in hK 70 (by kernel_rfl)
      · exact owed_movew rfl rfl rfl (by kernel_rfl) (fun _ _ h => h) (.inl rfl) fun fr w _ hK => known_out hK 5 (by kernel_rfl)
      · refine owed_wval _ rfl rfl rfl (by kernel_rfl) (fun _ _ h => h) (fun _ => rfl) fun fr w hC hK => ?_
        have k72 : slot fr 72 = .int .i64 (i : Int) := known_in hK 72 (by kernel_rfl)
        clear hK
        unfold slot at k72
        have f1 : (1 : Int) ≤ (i : Int) := by omega
        go_simp
      · refine owed_val _ rfl rfl (fun _ => rfl) fun fr w hC hK => ?_
        have k71 : slot fr 71 = .bool true := known_in hK 71 (by kernel_rfl)
        have k73 : slot fr 73 = .bool true := known_in hK 73 (by kernel_rfl)
        clear hK
        unfold slot at k71 k73
        go_simp
      · exact owed_move rfl rfl (.inl rfl) fun fr w _ hK => known_in hK 74 (by kernel_rfl)
      · exact owed_movew rfl rfl rfl (by kernel_rfl) (fun _ _ h => h) (.inl rfl) fun fr w _ hK => known_out hK 5 (by kernel_rfl)
      · exact owed_movew rfl rfl rfl (by kernel_rfl) (fun _ _ h => h) (.inl rfl) fun fr w _ hK => known_out hK 0 (by kernel_rfl)
      · refine owed_wval _ rfl rfl rfl (by kernel_rfl) (fun _ _ h => h) (fun _ => rfl) fun fr w hC hK => ?_
        have k77 : slot fr 77 = .slice A L cap := known_in hK 77 (by kernel_rfl)
        clear hK
        unfold slot at k77
        go_simp
      · refine owed_wval _ rfl rfl rfl (by kernel_rfl) (fun _ _ h => h) (fun _ => rfl) fun fr w hC hK => ?_
        have k76 : slot fr 76 = .int .i64 (i : Int) := known_in hK 76 (by kernel_rfl)
        have k78 : slot fr 78 = .int .i64 (L : Int) := known_in hK 78 (by kernel_rfl)
        clear hK
        unfold slot at k76 k78
        have f1 : (i : Int) ≤ (L : Int) := by omega
        go_simp
      · refine owed_val _ rfl rfl (fun _ => rfl) fun fr w hC hK => ?_
        have k75 : slot fr 75 = .bool true := known_in hK 75 (by kernel_rfl)
        have k79 : slot fr 79 = .bool true := known_in hK 79 (by kernel_rfl)
        clear hK
        unfold slot at k75 k79
        go_simp
      · exact owed_move rfl rfl (.inl rfl) fun fr w _ hK => known_in hK 80 (by kernel_rfl)
      · exact owed_movew rfl rfl rfl (by kernel_rfl) (fun _ _ h => h) (.inl rfl) fun fr w _ hK => known_out hK 4 (by kernel_rfl)
      · refine owed_wanted rfl rfl rfl (by kernel_rfl) (fun _ _ h => h) fun fr w hC hK K hk => ?_
        have k82 : slot fr 82 = .int .u64 (x : Int) := known_in hK 82 (by kernel_rfl)
        clear hK
        unfold slot at k82
        go_simp
        refine (put_any x w hx64).mono ?_
        rintro e w' ⟨v, rfl, hown, hb⟩
        exact hk _ _ hb (Txt.of_new hown)
      · refine owed_wval _ rfl rfl rfl (by kernel_rfl) (fun _ _ h => h) (fun _ => rfl) fun fr w hC hK => ?_
        obtain ⟨A83, n83, c83, k83, r83⟩ : Txt (put x) (slot fr 83) w := known_in hK 83 (by kernel_rfl)
        clear hK
        unfold slot at k83
        have s := run_str (P := Try.prog) w 23 9 5 Try.underlying23 Try.underlying5 Try.underlying9 r83 c83
        go_simp
      · exact owed_movew rfl rfl rfl (by kernel_rfl) (fun _ _ h => h) (.inl rfl) fun fr w _ hK => known_out hK 0 (by kernel_rfl)
      · exact owed_movew rfl rfl rfl (by kernel_rfl) (fun _ _ h => h) (.inl rfl) fun fr w _ hK => known_out hK 5 (by kernel_rfl)
      · refine owed_wval _ rfl rfl rfl (by kernel_rfl) (fun _ _ h => h) (fun _ => rfl) fun fr w hC hK => ?_
        have k85 : slot fr 85 = .slice A L cap := known_in hK 85 (by kernel_rfl)
        have k86 : slot fr 86 = .int .i64 (i : Int) := known_in hK 86 (by kernel_rfl)
        clear hK
        unfold slot at k85 k86
        have f1 : (0 : Int) ≤ (i : Int) := by omega
        have f2 : (i : Int) ≤ (cap : Int) := by omega
        go_simp
      · refine owed_wval _ rfl rfl rfl (by kernel_rfl) (fun _ _ h => h) (fun _ => rfl) fun fr w hC hK => ?_
        have k87 : slot fr 87 = .slice A i cap := known_in hK 87 (by kernel_rfl)
        clear hK
        unfold slot at k87
        have r1 : Rd w wc.heap.size 1 A i (bvs (xs.take i)) := by
          have h1 := ((HR1.out.more hsz).below hC).take hiL
          rw [Nat.mul_one] at h1
          simpa [bvs, List.map_take] using h1
        have s := run_str (P := Try.prog) w 23 9 5 Try.underlying23 Try.underlying5 Try.underlying9 r1 cap
        go_simp
      · refine owed_wval _ rfl rfl rfl (by kernel_rfl) (fun _ _ h => h) (fun _ => rfl) fun fr w hC hK => ?_
        have k84 : slot fr 84 = .string (strOf (put x)) := known_in hK 84 (by kernel_rfl)
        have k88 : slot fr 88 = .string (strOf (xs.take i)) := known_in hK 88 (by kernel_rfl)
        clear hK
        unfold slot at k84 k88
        have f1 := HPX.out
        go_simp
      · refine owed_val _ rfl rfl (fun _ => rfl) fun fr w hC hK => ?_
        have k81 : slot fr 81 = .bool true := known_in hK 81 (by kernel_rfl)
        have k89 : slot fr 89 = .bool true := known_in hK 89 (by kernel_rfl)
        clear hK
        unfold slot at k81 k89
        go_simp
      · exact owed_move rfl rfl (.inr rfl) fun fr w _ hK => known_in hK 90 (by kernel_rfl)
      intro vs w' hg hgood
      have h2 : vs 2 = .bool true := hgood.2.2.2.2.2.2.2.2.2.2.2.2.2.2.2.2.2.2.2.2.2.1
      clear hgood
      simp only [putsOf]
      go_simp
      go_wp2
      go_ret
      exact ⟨rfl, hb1.trans (hg.mono hb1.size)⟩
    · -- refused: 2
      have ht : taken (take xs) = .tuple #[.int .u64 0, .int .i64 0, .int .i64 2] := by rw [he]; rfl
      have HT := Lib.hid ht
      clear ht he
      have HLT := Lib.hid (show L < 10 by have := HLEN.out; omega)
      have HALL := Lib.hid hall
      clear hlen hall
      go_wp2_with fail
      refine (take_any A L _ _ xs _ HB1.out HR1.out (by omega)).mono ?_
      rintro e' w2 ⟨rfl, rfl⟩
      rw [HT.out]
      go_wp2
      go_loop [7, 8] (fun mo k => ∃ (j : Nat) (B : Bool), j ≤ L ∧ j ≤ 10 ∧ k = .int .i64 (j : Int) ∧ mo = .bool B ∧ B = (xs.take j).any (fun c => decide (c < 128))) (fun _ k => 10 - (intOf k).toNat)
      case atStart => exact ⟨0, false, by omega, by omega, rfl, rfl, by simp⟩
      case round =>
        obtain ⟨j, B, hj, hj10, rfl, rfl, hB⟩ := hrel
        have HBB := Lib.hid hB
        clear hB
        by_cases hj1 : j < L
        · by_cases hj2 : j < 10
          · obtain ⟨ad, c0, rfl, hc0, _, hget, hcell⟩ := HR1.out.byte HB1.out hj1
            have HG := Lib.hid hget
            clear hget
            have q1 : ((j : Int) < (L : Int)) := by omega
            cases B with
            | true =>
              go_wp2
              go_round
              case rel => exact ⟨j + 1, true, by omega, by omega, by go_num, rfl, by rw [any_snoc HG.out, ← HBB.out]; rfl⟩
              case measure => simp [intOf]; omega
            | false =>
              by_cases hc : c0 < 128
              all_goals
                go_wp2
                go_round
                case rel => exact ⟨j + 1, decide (c0 < 128), by omega, by omega, by go_num, by simp [hc]; omega, by rw [any_snoc HG.out, ← HBB.out]; rfl⟩
                case measure => simp [intOf]; omega
          · obtain rfl : j = 10 := by omega
            have HE := Lib.hid (HBB.out)
            clear HBB
            exact absurd HLT.out (by omega)
        · obtain rfl : L = j := by omega
          have HE := Lib.hid (HBB.out)
          clear HBB
          have hf : B = false := by rw [HE.out]; exact any_no HALL.out _
          subst hf
          have q2 : ((L : Int) < 10) := by have := HLT.out; omega
          go_wp2
          all_goals go_ret
          all_goals exact ⟨by simp, hb1⟩
    · -- refused: 3
      have ht : taken (take xs) = .tuple #[.int .u64 0, .int .i64 0, .int .i64 3] := by rw [he]; rfl
      have HT := Lib.hid ht
      clear ht he
      have HNO := Lib.hid hno
      clear hno
      go_wp2_with fail
      refine (take_any A L _ _ xs _ HB1.out HR1.out (by omega)).mono ?_
      rintro e' w2 ⟨rfl, rfl⟩
      rw [HT.out]
      go_wp2
      go_loop [7, 8] (fun mo k => ∃ (j : Nat) (B : Bool), j ≤ L ∧ j ≤ 10 ∧ k = .int .i64 (j : Int) ∧ mo = .bool B ∧ B = (xs.take j).any (fun c => decide (c < 128))) (fun _ k => 10 - (intOf k).toNat)
      case atStart => exact ⟨0, false, by omega, by omega, rfl, rfl, by simp⟩
      case round =>
        obtain ⟨j, B, hj, hj10, rfl, rfl, hB⟩ := hrel
        have HBB := Lib.hid hB
        clear hB
        by_cases hj1 : j < L
        · by_cases hj2 : j < 10
          · obtain ⟨ad, c0, rfl, hc0, _, hget, hcell⟩ := HR1.out.byte HB1.out hj1
            have HG := Lib.hid hget
            clear hget
            have q1 : ((j : Int) < (L : Int)) := by omega
            cases B with
            | true =>
              go_wp2
              go_round
              case rel => exact ⟨j + 1, true, by omega, by omega, by go_num, rfl, by rw [any_snoc HG.out, ← HBB.out]; rfl⟩
              case measure => simp [intOf]; omega
            | false =>
              by_cases hc : c0 < 128
              all_goals
                go_wp2
                go_round
                case rel => exact ⟨j + 1, decide (c0 < 128), by omega, by omega, by go_num, by simp [hc]; omega, by rw [any_snoc HG.out, ← HBB.out]; rfl⟩
                case measure => simp [intOf]; omega
          · obtain rfl : j = 10 := by omega
            have HE := Lib.hid (HBB.out)
            clear HBB
            have q2 : ¬ ((L : Int) < 10) := by omega
            cases B
            all_goals
              go_wp2
              all_goals go_ret
              all_goals exact ⟨by simp; try omega, hb1⟩
        · obtain rfl : L = j := by omega
          have HE := Lib.hid (HBB.out)
          clear HBB
          cases hBv : B with
          | true =>
            subst hBv
            go_wp2
            all_goals go_ret
            all_goals exact ⟨by simp, hb1⟩
          | false =>
            have q2 : ¬ ((L : Int) < 10) := by
              intro hlt
              refine HNO.out ⟨by have := HLEN.out; omega, fun c hc => ?_⟩
              have h1 := HE.out
              rw [hBv, List.take_of_length_le (by have := HLEN.out; omega)] at h1
              have h2 := List.any_eq_false.1 h1.symm c hc
              simpa using h2
            subst hBv
            go_wp2
            all_goals go_ret
            all_goals exact ⟨by simp; try omega, hb1⟩
end Go.Proofs.Ytabehpnbfdbmlaa.Vi
