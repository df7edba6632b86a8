/-
  The walk of the law that all calls of layer 1 answer as the document says.
-/
import Derived.Test.YtabehpnbfdbmlaaViShown
import Derived.Test.YtabehpnbfdbmlaaViRTake
import Derived.Deep.DeepCutAuto
namespace Go.Proofs.Ytabehpnbfdbmlaa.Vi
open Go.RowKit

set_option maxHeartbeats 4000000 in
set_option maxRecDepth 100000 in
theorem all_any (n k : Int) (A : Option Addr) (len cap : Nat) (bs : List Nat) (w : World) (h0 : 0 ≤ n) (h1 : n ≤ 18446744073709551615) (k0 : -9223372036854775808 ≤ k) (k1 : k ≤ 9223372036854775807)
    (hb : ∀ c ∈ bs, c < 256) (h : Rd w w.heap.size 1 A len (bvs bs)) (hlc : len ≤ cap) (hcap : cap ≤ 9223372036854775807) :
    Calls Try.prog 3 #[.int .u64 n, .int .i64 k, .slice A len cap] w fun e w' => e = .returned (.bool true) ∧ Below w.heap.size w w' := by
  have HB := Lib.hid hb
  have HR := Lib.hid h
  clear hb h
  go_enter Try.func3, Try.ntmps3
  go_upto_if 17 with (go_at_call 8; refine (shown_any _).mono ?_; rintro e w1 ⟨rfl, hb1⟩)
  go_cut [2] (fun b wx => ∃ L : Nat, L ≤ len ∧ L ≤ 30 ∧ b = .slice A L cap ∧ wx = w1)
  case first =>
    by_cases hl : 30 < len
    · have e1 : (30 : Int) ≤ (cap : Int) := by omega
      go_wp2
      go_meet
      case rel => exact ⟨30, by omega, by omega, rfl, rfl⟩
    · go_wp2
      go_meet
      case rel => exact ⟨len, by omega, by omega, rfl, rfl⟩
  case rest =>
    obtain ⟨L, hL, hL30, rfl, rfl⟩ := hcut
    have hr1 : Rd wc w.heap.size 1 A L (bvs (bs.take L)) := by
      have h1 := (HR.out.below hb1).take hL
      rw [Nat.mul_one] at h1
      simpa [bvs, List.map_take] using h1
    have hbt : ∀ c ∈ bs.take L, c < 256 := fun c hc => HB.out c (List.mem_of_mem_take hc)
    obtain ⟨xs, hxs⟩ : ∃ xs, xs = bs.take L := ⟨_, rfl⟩
    rw [← hxs] at hr1 hbt
    clear hxs
    have HR1 := Lib.hid hr1
    have HB1 := Lib.hid hbt
    clear hr1 hbt
    obtain ⟨x, i, e, hx⟩ : ∃ x i e, take xs = (x, i, e) := ⟨_, _, _, rfl⟩
    have ht : taken (take xs) = .tuple #[.int .u64 (x : Int), .int .i64 (i : Int), .int .i64 (e : Int)] := by rw [hx]; rfl
    have HT := Lib.hid ht
    clear ht hx
    go_wp2_with fail
    refine (take_any A L _ _ xs _ HB1.out HR1.out (by omega)).mono ?_
    rintro e' w2 ⟨rfl, rfl⟩
    rw [HT.out]
    go_wp2_with fail
    refine (rtake_any A L _ xs _ HB1.out (HR1.out.more hb1.size) (by omega) (by omega)).mono ?_
    rintro e' w2 ⟨rfl, hb2⟩
    rw [HT.out]
    have hb12 : Below w.heap.size w w2 := hb1.trans (hb2.mono hb1.size)
    go_wp2
    refine wp_region_grew (n := 78) (Say [(32, isv (.bool true)), (33, isv (.bool true)), (34, isv (.int .u64 n)), (35, istxt (put n.toNat)), (36, isv (.string (strOf (put n.toNat)))), (37, isv (.int .u64 n)), (38, istxt (put n.toNat)), (39, isv (.string (strOf (put n.toNat)))), (40, isv (.bool true)), (41, isv (.bool true)), (42, isv (.bool true)), (43, isv (.int .u64 n)), (44, isv (.int .i64 ((put n.toNat).length : Nat))), (45, isv (.int .u64 n)), (46, isv (.int .i64 ((put n.toNat).length : Nat))), (47, isv (.bool true)), (48, isv (.bool true)), (49, isv (.bool true)), (50, isv (.int .u64 (x : Int))), (51, isv (.int .u64 (x : Int))), (52, isv (.bool true)), (53, isv (.bool true)), (54, isv (.bool true)), (55, isv (.int .i64 (i : Int))), (56, isv (.int .i64 (i : Int))), (57, isv (.bool true)), (58, isv (.bool true)), (59, isv (.bool true)), (60, isv (.int .i64 (e : Int))), (61, isv (.int .i64 (e : Int))), (62, isv (.bool true)), (63, isv (.bool true)), (64, isv (.bool true)), (65, isv (.int .i64 k)), (66, isv (.int .u64 (zig k))), (67, isv (.int .i64 k)), (68, isv (.int .u64 (zig k))), (69, isv (.bool true)), (70, isv (.bool true)), (71, isv (.bool true)), (72, isv (.int .u64 n)), (73, isv (.int .i64 (zag n))), (74, isv (.int .u64 n)), (75, isv (.int .i64 (zag n))), (76, isv (.bool true)), (77, isv (.bool true)), (6, isv (.bool true))]) (by kernel_rfl) (by kernel_rfl) rfl ⟨?_, ?_, ?_, ?_, ?_, ?_, ?_, ?_, ?_, ?_, ?_, ?_, ?_, ?_, ?_, ?_, ?_, ?_, ?_, ?_, ?_, ?_, ?_, ?_, ?_, ?_, ?_, ?_, ?_, ?_, ?_, ?_, ?_, ?_, ?_, ?_, ?_, ?_, ?_, ?_, ?_, ?_, ?_, ?_, ?_, ?_, ?_, trivial⟩ ?_
    · exact owed_move rfl rfl (.inl rfl) fun fr w _ hK => known_out hK 7 (by kernel_rfl)
    · exact owed_move rfl rfl (.inl rfl) fun fr w _ hK => known_in hK 32 (by kernel_rfl)
    · exact owed_movew rfl rfl rfl (by kernel_rfl) (fun _ _ h => h) (.inl rfl) fun fr w _ hK => known_out hK 0 (by kernel_rfl)
    · refine owed_wanted rfl rfl rfl (by kernel_rfl) (fun _ _ h => h) fun fr w hC hK K hk => ?_
      have k34 : slot fr 34 = .int .u64 n := known_in hK 34 (by kernel_rfl)
      clear hK
      unfold slot at k34
      go_simp
      refine (put_int n w h0 h1).mono ?_
      rintro e w' ⟨v, rfl, hown, hb⟩
      exact hk _ _ hb (Txt.of_new hown)
    · refine owed_wval _ rfl rfl rfl (by kernel_rfl) (fun _ _ h => h) (fun _ => rfl) fun fr w hC hK => ?_
      obtain ⟨A35, n35, c35, k35, r35⟩ : Txt (put n.toNat) (slot fr 35) w := known_in hK 35 (by kernel_rfl)
      clear hK
      unfold slot at k35
      have s := run_str (P := Try.prog) w 23 9 5 Try.underlying23 Try.underlying5 Try.underlying9 r35 c35
      go_simp
    · exact owed_movew rfl rfl rfl (by kernel_rfl) (fun _ _ h => h) (.inl rfl) fun fr w _ hK => known_out hK 0 (by kernel_rfl)
    · refine owed_wanted rfl rfl rfl (by kernel_rfl) (fun _ _ h => h) fun fr w hC hK K hk => ?_
      have k37 : slot fr 37 = .int .u64 n := known_in hK 37 (by kernel_rfl)
      clear hK
      unfold slot at k37
      go_simp
      refine (rput_int n w h0 h1).mono ?_
      rintro e w' ⟨v, rfl, hown, hb⟩
      exact hk _ _ hb (Txt.of_new hown)
    · refine owed_wval _ rfl rfl rfl (by kernel_rfl) (fun _ _ h => h) (fun _ => rfl) fun fr w hC hK => ?_
      obtain ⟨A38, n38, c38, k38, r38⟩ : Txt (put n.toNat) (slot fr 38) w := known_in hK 38 (by kernel_rfl)
      clear hK
      unfold slot at k38
      have s := run_str (P := Try.prog) w 23 9 5 Try.underlying23 Try.underlying5 Try.underlying9 r38 c38
      go_simp
    · refine owed_wval _ rfl rfl rfl (by kernel_rfl) (fun _ _ h => h) (fun _ => rfl) fun fr w hC hK => ?_
      have k36 : slot fr 36 = .string (strOf (put n.toNat)) := known_in hK 36 (by kernel_rfl)
      have k39 : slot fr 39 = .string (strOf (put n.toNat)) := known_in hK 39 (by kernel_rfl)
      clear hK
      unfold slot at k36 k39
      go_simp
    · refine owed_val _ rfl rfl (fun _ => rfl) fun fr w hC hK => ?_
      have k33 : slot fr 33 = .bool true := known_in hK 33 (by kernel_rfl)
      have k40 : slot fr 40 = .bool true := known_in hK 40 (by kernel_rfl)
      clear hK
      unfold slot at k33 k40
      go_simp
    · exact owed_move rfl rfl (.inl rfl) fun fr w _ hK => known_in hK 41 (by kernel_rfl)
    · exact owed_movew rfl rfl rfl (by kernel_rfl) (fun _ _ h => h) (.inl rfl) fun fr w _ hK => known_out hK 0 (by kernel_rfl)
    · refine owed_wanted rfl rfl rfl (by kernel_rfl) (fun _ _ h => h) fun fr w hC hK K hk => ?_
      have k43 : slot fr 43 = .int .u64 n := known_in hK 43 (by kernel_rfl)
      clear hK
      unfold slot at k43
      go_simp
      refine (size_any n w h0 h1).mono ?_
      rintro e w' ⟨rfl, rfl⟩
      exact hk _ _ (Below.refl _ _) rfl
    · exact owed_movew rfl rfl rfl (by kernel_rfl) (fun _ _ h => h) (.inl rfl) fun fr w _ hK => known_out hK 0 (by kernel_rfl)
    · refine owed_wanted rfl rfl rfl (by kernel_rfl) (fun _ _ h => h) fun fr w hC hK K hk => ?_
      have k45 : slot fr 45 = .int .u64 n := known_in hK 45 (by kernel_rfl)
      clear hK
      unfold slot at k45
      go_simp
      refine (rsize_int n w h0 h1).mono ?_
      rintro e w' ⟨rfl, hb⟩
      exact hk _ _ hb rfl
    · refine owed_wval _ rfl rfl rfl (by kernel_rfl) (fun _ _ h => h) (fun _ => rfl) fun fr w hC hK => ?_
      have k44 : slot fr 44 = .int .i64 ((put n.toNat).length : Nat) := known_in hK 44 (by kernel_rfl)
      have k46 : slot fr 46 = .int .i64 ((put n.toNat).length : Nat) := known_in hK 46 (by kernel_rfl)
      clear hK
      unfold slot at k44 k46
      go_simp
    · refine owed_val _ rfl rfl (fun _ => rfl) fun fr w hC hK => ?_
      have k42 : slot fr 42 = .bool true := known_in hK 42 (by kernel_rfl)
      have k47 : slot fr 47 = .bool true := known_in hK 47 (by kernel_rfl)
      clear hK
      unfold slot at k42 k47
      go_simp
    · exact owed_move rfl rfl (.inl rfl) fun fr w _ hK => known_in hK 48 (by kernel_rfl)
    · exact owed_movew rfl rfl rfl (by kernel_rfl) (fun _ _ h => h) (.inl rfl) fun fr w _ hK => known_out hK 8 (by kernel_rfl)
    · exact owed_movew rfl rfl rfl (by kernel_rfl) (fun _ _ h => h) (.inl rfl) fun fr w _ hK => known_out hK 11 (by kernel_rfl)
    · refine owed_wval _ rfl rfl rfl (by kernel_rfl) (fun _ _ h => h) (fun _ => rfl) fun fr w hC hK => ?_
      have k50 : slot fr 50 = .int .u64 (x : Int) := known_in hK 50 (by kernel_rfl)
      have k51 : slot fr 51 = .int .u64 (x : Int) := known_in hK 51 (by kernel_rfl)
      clear hK
      unfold slot at k50 k51
      go_simp
    · refine owed_val _ rfl rfl (fun _ => rfl) fun fr w hC hK => ?_
      have k49 : slot fr 49 = .bool true := known_in hK 49 (by kernel_rfl)
      have k52 : slot fr 52 = .bool true := known_in hK 52 (by kernel_rfl)
      clear hK
      unfold slot at k49 k52
      go_simp
    · exact owed_move rfl rfl (.inl rfl) fun fr w _ hK => known_in hK 53 (by kernel_rfl)
    · exact owed_movew rfl rfl rfl (by kernel_rfl) (fun _ _ h => h) (.inl rfl) fun fr w _ hK => known_out hK 9 (by kernel_rfl)
    · exact owed_movew rfl rfl rfl (by kernel_rfl) (fun _ _ h => h) (.inl rfl) fun fr w _ hK => known_out hK 12 (by kernel_rfl)
    · refine owed_wval _ rfl rfl rfl (by kernel_rfl) (fun _ _ h => h) (fun _ => rfl) fun fr w hC hK => ?_
      have k55 : slot fr 55 = .int .i64 (i : Int) := known_in hK 55 (by kernel_rfl)
      have k56 : slot fr 56 = .int .i64 (i : Int) := known_in hK 56 (by kernel_rfl)
      clear hK
      unfold slot at k55 k56
      go_simp
    · refine owed_val _ rfl rfl (fun _ => rfl) fun fr w hC hK => ?_
      have k54 : slot fr 54 = .bool true := known_in hK 54 (by kernel_rfl)
      have k57 : slot fr 57 = .bool true := known_in hK 57 (by kernel_rfl)
      clear hK
      unfold slot at k54 k57
      go_simp
    · exact owed_move rfl rfl (.inl rfl) fun fr w _ hK => known_in hK 58 (by kernel_rfl)
    · exact owed_movew rfl rfl rfl (by kernel_rfl) (fun _ _ h => h) (.inl rfl) fun fr w _ hK => known_out hK 10 (by kernel_rfl)
    · exact owed_movew rfl rfl rfl (by kernel_rfl) (fun _ _ h => h) (.inl rfl) fun fr w _ hK => known_out hK 13 (by kernel_rfl)
    · refine owed_wval _ rfl rfl rfl (by kernel_rfl) (fun _ _ h => h) (fun _ => rfl) fun fr w hC hK => ?_
      have k60 : slot fr 60 = .int .i64 (e : Int) := known_in hK 60 (by kernel_rfl)
      have k61 : slot fr 61 = .int .i64 (e : Int) := known_in hK 61 (by kernel_rfl)
      clear hK
      unfold slot at k60 k61
      go_simp
    · refine owed_val _ rfl rfl (fun _ => rfl) fun fr w hC hK => ?_
      have k59 : slot fr 59 = .bool true := known_in hK 59 (by kernel_rfl)
      have k62 : slot fr 62 = .bool true := known_in hK 62 (by kernel_rfl)
      clear hK
      unfold slot at k59 k62
      go_simp
    · exact owed_move rfl rfl (.inl rfl) fun fr w _ hK => known_in hK 63 (by kernel_rfl)
    · exact owed_movew rfl rfl rfl (by kernel_rfl) (fun _ _ h => h) (.inl rfl) fun fr w _ hK => known_out hK 1 (by kernel_rfl)
    · refine owed_wanted rfl rfl rfl (by kernel_rfl) (fun _ _ h => h) fun fr w hC hK K hk => ?_
      have k65 : slot fr 65 = .int .i64 k := known_in hK 65 (by kernel_rfl)
      clear hK
      unfold slot at k65
      go_simp
      refine (zig_any k w k0 k1).mono ?_
      rintro e w' ⟨rfl, rfl⟩
      exact hk _ _ (Below.refl _ _) rfl
    · exact owed_movew rfl rfl rfl (by kernel_rfl) (fun _ _ h => h) (.inl rfl) fun fr w _ hK => known_out hK 1 (by kernel_rfl)
    · refine owed_wanted rfl rfl rfl (by kernel_rfl) (fun _ _ h => h) fun fr w hC hK K hk => ?_
      have k67 : slot fr 67 = .int .i64 k := known_in hK 67 (by kernel_rfl)
      clear hK
      unfold slot at k67
      go_simp
      refine (rzig_any k w k0 k1).mono ?_
      rintro e w' ⟨rfl, rfl⟩
      exact hk _ _ (Below.refl _ _) rfl
    · refine owed_wval _ rfl rfl rfl (by kernel_rfl) (fun _ _ h => h) (fun _ => rfl) fun fr w hC hK => ?_
      have k66 : slot fr 66 = .int .u64 (zig k) := known_in hK 66 (by kernel_rfl)
      have k68 : slot fr 68 = .int .u64 (zig k) := known_in hK 68 (by kernel_rfl)
      clear hK
      unfold slot at k66 k68
      go_simp
    · refine owed_val _ rfl rfl (fun _ => rfl) fun fr w hC hK => ?_
      have k64 : slot fr 64 = .bool true := known_in hK 64 (by kernel_rfl)
      have k69 : slot fr 69 = .bool true := known_in hK 69 (by kernel_rfl)
      clear hK
      unfold slot at k64 k69
      go_simp
    · exact owed_move rfl rfl (.inl rfl) fun fr w _ hK => known_in hK 70 (by kernel_rfl)
    · exact owed_movew rfl rfl rfl (by kernel_rfl) (fun _ _ h => h) (.inl rfl) fun fr w _ hK => known_out hK 0 (by kernel_rfl)
    · refine owed_wanted rfl rfl rfl (by kernel_rfl) (fun _ _ h => h) fun fr w hC hK K hk => ?_
      have k72 : slot fr 72 = .int .u64 n := known_in hK 72 (by kernel_rfl)
      clear hK
      unfold slot at k72
      go_simp
      refine (zag_any n w h0 h1).mono ?_
      rintro e w' ⟨rfl, rfl⟩
      exact hk _ _ (Below.refl _ _) rfl
    · exact owed_movew rfl rfl rfl (by kernel_rfl) (fun _ _ h => h) (.inl rfl) fun fr w _ hK => known_out hK 0 (by kernel_rfl)
    · refine owed_wanted rfl rfl rfl (by kernel_rfl) (fun _ _ h => h) fun fr w hC hK K hk => ?_
      have k74 : slot fr 74 = .int .u64 n := known_in hK 74 (by kernel_rfl)
      clear hK
      unfold slot at k74
      go_simp
      refine (rzag_any n w h0 h1).mono ?_
      rintro e w' ⟨rfl, rfl⟩
      exact hk _ _ (Below.refl _ _) rfl
    · refine owed_wval _ rfl rfl rfl (by kernel_rfl) (fun _ _ h => h) (fun _ => rfl) fun fr w hC hK => ?_
      have k73 : slot fr 73 = .int .i64 (zag n) := known_in hK 73 (by kernel_rfl)
      have k75 : slot fr 75 = .int .i64 (zag n) := known_in hK 75 (by kernel_rfl)
      clear hK
      unfold slot at k73 k75
      go_simp
    · refine owed_val _ rfl rfl (fun _ => rfl) fun fr w hC hK => ?_
      have k71 : slot fr 71 = .bool true := known_in hK 71 (by kernel_rfl)
      have k76 : slot fr 76 = .bool true := known_in hK 76 (by kernel_rfl)
      clear hK
      unfold slot at k71 k76
      go_simp
    · exact owed_move rfl rfl (.inr rfl) fun fr w _ hK => known_in hK 77 (by kernel_rfl)
    intro vs w' hg hgood
    have h6 : vs 6 = .bool true := hgood.2.2.2.2.2.2.2.2.2.2.2.2.2.2.2.2.2.2.2.2.2.2.2.2.2.2.2.2.2.2.2.2.2.2.2.2.2.2.2.2.2.2.2.2.2.2.1
    clear hgood
    simp only [putsOf]
    go_simp
    go_wp2
    go_ret
    exact ⟨rfl, hb12.trans (hg.mono hb12.size)⟩
end Go.Proofs.Ytabehpnbfdbmlaa.Vi
