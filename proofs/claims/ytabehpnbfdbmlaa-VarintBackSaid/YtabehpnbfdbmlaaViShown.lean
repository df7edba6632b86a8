/-
  The document's examples, at the head of each law of layer 1.
-/
import Derived.Test.YtabehpnbfdbmlaaViTake
import Derived.Test.YtabehpnbfdbmlaaSteady
namespace Go.Proofs.Ytabehpnbfdbmlaa.Vi
open Go.RowKit

theorem lit_bytes (l : List Nat) (h : l.all (· < 256) = true) : ∀ c ∈ l, c < 256 := by
  intro c hc
  have := List.all_eq_true.1 h c hc
  simpa using this

set_option maxRecDepth 100000 in
theorem shown_any (w : World) : Calls Try.prog 8 #[] w fun e w' => e = .returned (.bool true) ∧ Below w.heap.size w w' := by
  have r1 : Rd (w.alloc (.cells #[.int .u8 128, .int .u8 0] 5)) (w.heap.size + 1) 1 (some ⟨w.heap.size, 0, none⟩) 2 (bvs [128, 0]) := rd_new w [.int .u8 128, .int .u8 0] 5
  have r2 : Rd ((w.alloc (.cells #[.int .u8 128, .int .u8 0] 5)).alloc (.cells #[.int .u8 128] 5)) (w.heap.size + 2) 1 (some ⟨w.heap.size + 1, 0, none⟩) 1 (bvs [128]) := by
    have := rd_new (w.alloc (.cells #[.int .u8 128, .int .u8 0] 5)) [.int .u8 128] 5
    rw [show (w.alloc (.cells #[.int .u8 128, .int .u8 0] 5)).heap.size = w.heap.size + 1 by simp] at this
    exact this
  go_enter Try.func8, Try.ntmps8
  go_wp2_with fail
  refine (take_any _ 2 _ _ [128, 0] _ (lit_bytes _ rfl) r1 (by omega)).mono ?_
  rintro e w1 ⟨rfl, rfl⟩
  have t1 : taken (take [128, 0]) = .tuple #[.int .u64 0, .int .i64 0, .int .i64 3] := rfl
  rw [t1]
  clear t1
  go_wp2_with fail
  refine (take_any _ 1 _ _ [128] _ (lit_bytes _ rfl) r2 (by omega)).mono ?_
  rintro e w1 ⟨rfl, rfl⟩
  have t2 : taken (take [128]) = .tuple #[.int .u64 0, .int .i64 0, .int .i64 2] := rfl
  rw [t2]
  clear t2
  go_wp2
  refine wp_region_grew (n := 36) (Say [(19, istxt (put 300)), (20, isv (.string (strOf (put 300)))), (21, istxt ([172, 2])), (22, isv (.string (strOf [172, 2]))), (23, isv (.bool true)), (24, isv (.bool true)), (25, isv (.int .i64 3)), (26, isv (.bool true)), (27, isv (.bool true)), (28, isv (.bool true)), (29, isv (.int .i64 2)), (30, isv (.bool true)), (31, isv (.bool true)), (32, isv (.bool true)), (33, isv (.int .u64 3)), (34, isv (.bool true)), (35, isv (.bool true)), (0, isv (.bool true))]) (by kernel_rfl) (by kernel_rfl) rfl ⟨?_, ?_, ?_, ?_, ?_, ?_, ?_, ?_, ?_, ?_, ?_, ?_, ?_, ?_, ?_, ?_, ?_, ?_, trivial⟩ ?_
  · refine owed_plain rfl rfl fun fr w hC hK K hk => ?_
    clear hK
    go_simp
    refine (put_int 300 w (by omega) (by omega)).mono ?_
    rintro e w' ⟨v, rfl, hown, hb⟩
    exact hk _ _ hb (Txt.of_new hown)
  · refine owed_val _ rfl rfl (fun _ => rfl) fun fr w hC hK => ?_
    obtain ⟨A19, n19, c19, k19, r19⟩ : Txt (put 300) (slot fr 19) w := known_in hK 19 (by kernel_rfl)
    clear hK
    unfold slot at k19
    have s := run_str (P := Try.prog) w 23 9 5 Try.underlying23 Try.underlying5 Try.underlying9 r19 c19
    go_simp
  · refine owed_plain rfl rfl fun fr w hC hK K hk => ?_
    clear hK
    go_simp
    exact hk _ _ ((Below.refl _ _).alloc (Nat.le_refl _) _) ⟨_, _, _, rfl, by simpa [bvs, bv] using rd_new w [.int .u8 172, .int .u8 2] 5⟩
  · refine owed_val _ rfl rfl (fun _ => rfl) fun fr w hC hK => ?_
    obtain ⟨A21, n21, c21, k21, r21⟩ : Txt ([172, 2]) (slot fr 21) w := known_in hK 21 (by kernel_rfl)
    clear hK
    unfold slot at k21
    have s := run_str (P := Try.prog) w 23 9 5 Try.underlying23 Try.underlying5 Try.underlying9 r21 c21
    go_simp
  · refine owed_val _ rfl rfl (fun _ => rfl) fun fr w hC hK => ?_
    have k20 : slot fr 20 = .string (strOf (put 300)) := known_in hK 20 (by kernel_rfl)
    have k22 : slot fr 22 = .string (strOf [172, 2]) := known_in hK 22 (by kernel_rfl)
    clear hK
    unfold slot at k20 k22
    have s := str_beq (a := put 300) (b := [172, 2]) (by decide) (by decide)
    have s2 : decide (put 300 = [172, 2]) = true := by decide
    go_simp
  · exact owed_move rfl rfl (.inl rfl) fun fr w _ hK => known_in hK 23 (by kernel_rfl)
  · exact owed_movew rfl rfl rfl (by kernel_rfl) (fun _ _ h => h) (.inl rfl) fun fr w _ hK => known_out hK 3 (by kernel_rfl)
  · refine owed_wval _ rfl rfl rfl (by kernel_rfl) (fun _ _ h => h) (fun _ => rfl) fun fr w hC hK => ?_
    have k25 : slot fr 25 = .int .i64 3 := known_in hK 25 (by kernel_rfl)
    clear hK
    unfold slot at k25
    go_simp
  · refine owed_val _ rfl rfl (fun _ => rfl) fun fr w hC hK => ?_
    have k24 : slot fr 24 = .bool true := known_in hK 24 (by kernel_rfl)
    have k26 : slot fr 26 = .bool true := known_in hK 26 (by kernel_rfl)
    clear hK
    unfold slot at k24 k26
    go_simp
  · exact owed_move rfl rfl (.inl rfl) fun fr w _ hK => known_in hK 27 (by kernel_rfl)
  · exact owed_movew rfl rfl rfl (by kernel_rfl) (fun _ _ h => h) (.inl rfl) fun fr w _ hK => known_out hK 6 (by kernel_rfl)
  · refine owed_wval _ rfl rfl rfl (by kernel_rfl) (fun _ _ h => h) (fun _ => rfl) fun fr w hC hK => ?_
    have k29 : slot fr 29 = .int .i64 2 := known_in hK 29 (by kernel_rfl)
    clear hK
    unfold slot at k29
    go_simp
  · refine owed_val _ rfl rfl (fun _ => rfl) fun fr w hC hK => ?_
    have k28 : slot fr 28 = .bool true := known_in hK 28 (by kernel_rfl)
    have k30 : slot fr 30 = .bool true := known_in hK 30 (by kernel_rfl)
    clear hK
    unfold slot at k28 k30
    go_simp
  · exact owed_move rfl rfl (.inl rfl) fun fr w _ hK => known_in hK 31 (by kernel_rfl)
  · refine owed_wanted rfl rfl rfl (by kernel_rfl) (fun _ _ h => h) fun fr w hC hK K hk => ?_
    clear hK
    go_simp
    refine (zig_any (-2) w (by omega) (by omega)).mono ?_
    rintro e w' ⟨rfl, rfl⟩
    exact hk _ _ (Below.refl _ _) rfl
  · refine owed_wval _ rfl rfl rfl (by kernel_rfl) (fun _ _ h => h) (fun _ => rfl) fun fr w hC hK => ?_
    have k33 : slot fr 33 = .int .u64 3 := known_in hK 33 (by kernel_rfl)
    clear hK
    unfold slot at k33
    go_simp
  · refine owed_val _ rfl rfl (fun _ => rfl) fun fr w hC hK => ?_
    have k32 : slot fr 32 = .bool true := known_in hK 32 (by kernel_rfl)
    have k34 : slot fr 34 = .bool true := known_in hK 34 (by kernel_rfl)
    clear hK
    unfold slot at k32 k34
    go_simp
  · exact owed_move rfl rfl (.inr rfl) fun fr w _ hK => known_in hK 35 (by kernel_rfl)
  intro vs w' hg hgood
  have h0 : vs 0 = .bool true := hgood.2.2.2.2.2.2.2.2.2.2.2.2.2.2.2.2.2.1
  clear hgood
  simp only [putsOf]
  go_simp
  go_wp2
  go_ret
  exact ⟨rfl, by have := (((Below.refl w.heap.size w).alloc (Nat.le_refl _) (.cells #[.int .u8 128, .int .u8 0] 5)).alloc (by simp) (.cells #[.int .u8 128] 5)).trans (hg.mono (by simp; omega)); exact this⟩
end Go.Proofs.Ytabehpnbfdbmlaa.Vi
