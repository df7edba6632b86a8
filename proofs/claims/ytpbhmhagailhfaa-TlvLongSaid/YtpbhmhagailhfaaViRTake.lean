/-
  The walk of the reference's way to take a number.
-/
import Derived.Test.YtpbhmhagailhfaaViRPut
import Derived.Test.YtpbhmhagailhfaaSteady
namespace Go.Proofs.Ytpbhmhagailhfaa.Vi
open Go.RowKit

set_option maxHeartbeats 2000000 in
set_option maxRecDepth 100000 in
theorem rtake_any (A : Option Addr) (n c : Nat) (bs : List Nat) (w : World) (hb : ∀ c ∈ bs, c < 256) (h : Rd w w.heap.size 1 A n (bvs bs)) (hnc : n ≤ c) (hmax : c ≤ 9223372036854775807) :
    Calls Try.prog 29 #[.slice A n c] w fun e w' => e = .returned (taken (take bs)) ∧ Below w.heap.size w w' := by
  have hlen : bs.length = n := by have := h.1; rw [bvs_len] at this; omega
  have hrt := rt_take bs hb
  have HT := Lib.hid hrt
  have HL := Lib.hid hlen
  have HB := Lib.hid hb
  have HR := Lib.hid h
  clear hlen hb h hrt
  go_enter Try.func29, Try.ntmps29
  go_wp2
  go_loopw [5, 6] (fun x i wr => ∃ (j f m : Nat), i = .int .i64 (j : Int) ∧ x = .int .u64 (m : Int) ∧ j + f = 10 ∧ j ≤ n ∧ m < 18446744073709551616 ∧ rt bs 10 0 0 bs = rt bs f j m (bs.drop j) ∧ Below w.heap.size w wr) (fun _ i _ => 10 - (intOf i).toNat)
  case atStart => exact ⟨0, 10, 0, rfl, rfl, rfl, by omega, by omega, rfl, Below.refl _ _⟩
  case round =>
    obtain ⟨j, f, m, rfl, rfl, hf, hj, hm, hd, hbw⟩ := hrel
    have HD := Lib.hid hd
    clear hd
    by_cases h10 : j < 10
    · obtain ⟨g, rfl⟩ : ∃ g, f = g + 1 := ⟨f - 1, by omega⟩
      by_cases hjn : j < n
      · have HR2 := HR.out.below hbw
        obtain ⟨ad, c0, rfl, hc0, hdr, _, hcell⟩ := HR2.byte HB.out hjn
        have hv := HD.out
        rw [hdr] at hv
        have HV := Lib.hid hv
        clear hdr hv
        obtain ⟨M, hM⟩ : ∃ M : Nat, M = (m + c0 % 128 * 2 ^ (7 * j)) % 18446744073709551616 := ⟨_, rfl⟩
        have hMb : M < 18446744073709551616 := by rw [hM]; exact Nat.mod_lt _ (by omega)
        have hw : IntKind.u64.wrap ((m : Int) + IntKind.u64.wrap ((c0 : Int) % 128 * 2 ^ (7 * j))) = (M : Int) := by
          rw [hM, IntKind.wrap_u64, IntKind.wrap_u64]
          have e1 : (c0 : Int) % 128 * 2 ^ (7 * j) = ((c0 % 128 * 2 ^ (7 * j) : Nat) : Int) := by simp
          rw [e1]; omega
        have HM := Lib.hid hM
        clear hM
        go_wp2
        · obtain ⟨bt, hbt⟩ : ∃ bt : Bool, bt = decide (put M ≠ bs.take (j + 1)) := ⟨_, rfl⟩
          have HBT := Lib.hid hbt
          clear hbt
          refine wp_region_grew (n := 43) (Say [(31, isv (.int .u64 (M : Int))), (32, istxt (put M)), (33, isv (.string (strOf (put M)))), (34, isv (.slice (some ad) n c)), (35, isv (.int .i64 (j : Int))),
            (36, isv (.int .i64 ((j : Int) + 1))), (37, isv (.slice (some ad) (j + 1) c)), (38, isv (.string (strOf (bs.take (j + 1))))), (39, isv (.bool bt))])
            (by kernel_rfl) (by kernel_rfl) rfl ⟨?_, ?_, ?_, ?_, ?_, ?_, ?_, ?_, ?_, trivial⟩ ?_
          · exact owed_move rfl rfl (.inl rfl) fun a w _ hK => known_out hK 5 (by kernel_rfl)
          · refine owed_plain rfl rfl fun a w hC hK K hk => ?_
            have k : slot a 31 = .int .u64 (M : Int) := known_in hK 31 (by kernel_rfl)
            clear hK
            unfold slot at k
            go_simp
            refine (rput_any M w hMb).mono ?_
            rintro e w' ⟨v, rfl, hown, hb⟩
            exact hk v w' hb (Txt.of_new hown)
          · refine owed_val _ rfl rfl (fun _ => rfl) fun a w hC hK => ?_
            obtain ⟨A, n, c, hv, hr⟩ : Txt (put M) (slot a 32) w := known_in hK 32 (by kernel_rfl)
            clear hK
            unfold slot at hv
            have k := run_str (P := Try.prog) w 23 9 5 Try.underlying23 Try.underlying5 Try.underlying9 hr c
            go_simp
          · exact owed_move rfl rfl (.inl rfl) fun a w _ hK => known_out hK 0 (by kernel_rfl)
          · exact owed_move rfl rfl (.inl rfl) fun a w _ hK => known_out hK 6 (by kernel_rfl)
          · refine owed_val _ rfl rfl (fun _ => rfl) fun a w hC hK => ?_
            have k : slot a 35 = .int .i64 (j : Int) := known_in hK 35 (by kernel_rfl)
            clear hK
            unfold slot at k
            have e1 : IntKind.i64.wrap ((j : Int) + 1) = (j : Int) + 1 := IntWalk.i64_in _ ⟨by omega, by omega⟩
            go_simp
          · refine owed_val _ rfl rfl (fun _ => rfl) fun a w hC hK => ?_
            have k1 : slot a 34 = .slice (some ad) n c := known_in hK 34 (by kernel_rfl)
            have k2 : slot a 36 = .int .i64 ((j : Int) + 1) := known_in hK 36 (by kernel_rfl)
            clear hK
            unfold slot at k1 k2
            have e1 : (0 : Int) ≤ (j : Int) + 1 := by omega
            have e2 : (j : Int) + 1 ≤ (c : Int) := by omega
            go_simp
            trace_state
          · refine owed_val _ rfl rfl (fun _ => rfl) fun a w hC hK => ?_
            have k1 : slot a 37 = .slice (some ad) (j + 1) c := known_in hK 37 (by kernel_rfl)
            clear hK
            unfold slot at k1
            have hr : Rd w wr.heap.size 1 (some ad) (j + 1) (bvs (bs.take (j + 1))) := by
              have h1 := (((HR.out.below hbw).more hbw.size).below hC).take (show j + 1 ≤ n by omega)
              rw [Nat.mul_one] at h1
              simpa [bvs, List.map_take] using h1
            have k := run_str (P := Try.prog) w 23 9 5 Try.underlying23 Try.underlying5 Try.underlying9 hr c
            go_simp
          · refine owed_val _ rfl rfl (fun _ => rfl) fun a w hC hK => ?_
            have k1 : slot a 33 = .string (strOf (put M)) := known_in hK 33 (by kernel_rfl)
            have k2 : slot a 38 = .string (strOf (bs.take (j + 1))) := known_in hK 38 (by kernel_rfl)
            clear hK
            unfold slot at k1 k2
            have e1 := str_beq (put_byte M hMb) (fun c hc => HB.out c (List.mem_of_mem_take hc) : ∀ c ∈ bs.take (j + 1), c < 256)
            have e2 := HBT.out
            go_simp
          · intro vs w' hg hgood
            obtain ⟨_, _, _, _, _, _, _, _, h39, _⟩ := hgood
            have h39 : vs 39 = .bool bt := h39
            have hb2 : Below w.heap.size w w' := hbw.trans (hg.mono hbw.size)
            have hc3 : (c0 : Int) < 128 := by assumption
            have hc4 : (M : Nat) = (m + c0 * 2 ^ (7 * j)) % 18446744073709551616 := by rw [HM.out, show c0 % 128 = c0 by omega]
            have HM4 := Lib.hid hc4
            clear hc4
            simp only [putsOf]
            go_simp
            cases bt with
            | true =>
              go_wp2
              go_ret3
              have hne : ¬ put M = bs.take (j + 1) := by have := HBT.out; simpa using this.symm
              refine ⟨taken_of (x := 0) (k := 0) (e := 3) ?_ rfl rfl rfl, hb2⟩
              rw [← HT.out, HV.out, rt, if_pos (by omega), if_neg (by rw [← HM4.out]; exact hne)]
            | false =>
              go_wp2
              go_ret3
              have heq : put M = bs.take (j + 1) := by have := HBT.out; simpa using this.symm
              refine ⟨taken_of (x := M) (k := j + 1) (e := 0) ?_ rfl (by omega) rfl, hb2⟩
              rw [← HT.out, HV.out, rt, if_pos (by omega), if_pos (by rw [← HM4.out]; exact heq), ← HM4.out]
        · have hc3 : 128 ≤ (c0 : Int) := by assumption
          go_roundw
          case rel => exact ⟨j + 1, g, M, by go_num, rfl, by omega, by omega, hMb, by rw [HV.out, rt, if_neg (by omega), HM.out], hbw⟩
          case measure => simp [intOf]; omega
      · go_wp2
        go_ret3
        refine ⟨taken_of (x := 0) (k := 0) (e := 2) ?_ rfl rfl rfl, hbw⟩
        rw [← HT.out, HD.out, List.drop_eq_nil_of_le (by have := HL.out; omega)]; rfl
    · go_wp2
      go_ret3
      refine ⟨taken_of (x := 0) (k := 0) (e := 3) ?_ rfl rfl rfl, hbw⟩
      rw [← HT.out, HD.out, show f = 0 by omega]; rfl
end Go.Proofs.Ytpbhmhagailhfaa.Vi
