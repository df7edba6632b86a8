/-
  The walk of the law that a number that was laid down is taken as it was.
-/
import Derived.Test.YtabehpnbfdbmlaaViShown
import Derived.Deep.DeepCutAuto
namespace Go.Proofs.Ytabehpnbfdbmlaa.Vi
open Go.RowKit

theorem slice_of_own {w : World} {base : Nat} {e : TypeId} {size n : Nat} {v : Value} {xs : List Value} (h : w.ownsRow base e size v n xs) : ∃ (A : Option Addr) (c : Nat), v = .slice A n c ∧ n ≤ c ∧ c ≤ 9223372036854775807 := by
  rcases h.2 with ⟨h', h0⟩ | ⟨g, cap, _, h', _, _, h1, h2, _⟩
  · subst h0; exact ⟨none, 0, h', Nat.le_refl _, by omega⟩
  · exact ⟨_, _, h', h1, by unfold maxLen at h2; omega⟩

set_option maxHeartbeats 4000000 in
set_option maxRecDepth 100000 in
theorem back_any (n k : Int) (A : Option Addr) (len cap : Nat) (bs : List Nat) (w : World) (h0 : 0 ≤ n) (h1 : n ≤ 18446744073709551615) (k0 : -9223372036854775808 ≤ k) (k1 : k ≤ 9223372036854775807)
    (hb : ∀ c ∈ bs, c < 256) (h : Rd w w.heap.size 1 A len (bvs bs)) (hlc : len ≤ cap) (hcap : cap ≤ 9223372036854775807) :
    Calls Try.prog 4 #[.int .u64 n, .int .i64 k, .slice A len cap] w fun e w' => e = .returned (.bool true) ∧ Below w.heap.size w w' := by
  obtain ⟨i0, hi, hz0, hz1, hz2⟩ := info_parts byte_info
  have HB := Lib.hid hb
  have HR := Lib.hid h
  clear hb h
  go_enter Try.func4, Try.ntmps4
  go_upto_if 19 with (go_at_call 8; refine (shown_any _).mono ?_; rintro e w1 ⟨rfl, hb1⟩)
  go_cut [2] (fun b wx => ∃ L : Nat, L ≤ len ∧ L ≤ 30 ∧ b = .slice A L cap ∧ wx = w1)
  case first =>
    by_cases hl : 30 < len
    · have e1 : (30 : Int) ≤ (cap : Int) := by omega
      go_wp2
      go_meet
      case rel => exact ⟨30, by omega, by omega, rfl, rfl⟩
    · go_wp2
      go_meet
      case rel => exact ⟨len, by omega, by omega, rfl, rfl⟩
  case rest =>
    obtain ⟨L, hL, hL30, rfl, rfl⟩ := hcut
    have hr1 : Rd wc w.heap.size 1 A L (bvs (bs.take L)) := by
      have h1 := (HR.out.below hb1).take hL
      rw [Nat.mul_one] at h1
      simpa [bvs, List.map_take] using h1
    have hbt : ∀ c ∈ bs.take L, c < 256 := fun c hc => HB.out c (List.mem_of_mem_take hc)
    obtain ⟨xs, hxs⟩ : ∃ xs, xs = bs.take L := ⟨_, rfl⟩
    rw [← hxs] at hr1 hbt
    clear hxs
    have HR1 := Lib.hid hr1
    have HB1 := Lib.hid hbt
    clear hr1 hbt
    obtain ⟨N, hN⟩ : ∃ N : Nat, N = n.toNat := ⟨_, rfl⟩
    have hNn : n = (N : Int) := by omega
    subst hNn
    clear hN
    have hN64 : N < 18446744073709551616 := by omega
    have hpl := put_len N
    obtain ⟨m, hm⟩ : ∃ m, m = (put N).length := ⟨_, rfl⟩
    rw [← hm] at hpl
    have HM := Lib.hid hm
    clear hm
    go_wp2_with fail
    refine (put_any N _ hN64).mono ?_
    rintro e' w2 ⟨v, rfl, hown, hb2⟩
    rw [← HM.out] at hown
    obtain ⟨Ap, cp, rfl, hcp, hcp2⟩ := slice_of_own hown
    have hrp := Rd.of_own hown
    have hb12 : Below w.heap.size w w2 := hb1.trans (hb2.mono hb1.size)
    have HP := Lib.hid hrp
    clear hrp hown
    have hx2 := (HR1.out.below (hb2.mono hb1.size))
    have HX := Lib.hid hx2
    clear hx2
    have hsz1 := hb1.size
    have hsz2 := hb2.size
    go_wp2_with (at_builtin; refine wpList_append_rd _ rfl (.tmp 25) (.tmp 26) 23 rfl w2.heap.size 5 i0 (.int .u8 0) 1 1 Try.underlying23 hi hz0 hz1 hz2 rfl (by decide) _ 0 [] rfl (World.ownsRow_made (e := 5) w2 #[] 0 (Nat.le_refl _) (by unfold maxLen; omega) rfl) w2.heap.size Ap m cp (bvs (put N)) rfl (HP.out.alloc (Nat.le_refl _) _) (bvs_one _) (by unfold maxLen; omega) (by omega) (by simp) ?_)
    intro v3 w3 hown3 hg3
    have hb3 : Below w2.heap.size w2 w3 := ((Below.refl _ _).alloc (Nat.le_refl _) _).grown hg3 (by simp) (fun k hk => by simp [Value.ownBlock] at hk; omega)
    have hsz3 := hb3.size
    have HO3 := Lib.hid hown3
    clear hown3 hg3
    go_wp2_with (at_builtin; refine wpList_append_rd _ rfl (.tmp 27) (.tmp 28) 23 rfl w2.heap.size 5 i0 (.int .u8 0) 1 1 Try.underlying23 hi hz0 hz1 hz2 rfl (by decide) _ m (bvs (put N)) rfl HO3.out w.heap.size A L cap (bvs xs) rfl (HX.out.below (hb3.mono (by omega))) (bvs_one _) (by unfold maxLen; omega) (by omega) (by omega) ?_)
    intro v4 w4 hown4 hg4
    have hb4 : Below w2.heap.size w2 w4 := hb3.grown hg4 (by omega) (fun k hk => (HO3.out.lt k hk).1)
    rw [← bvs_app] at hown4
    obtain ⟨A4, c4, rfl, hc4, hc42⟩ := slice_of_own hown4
    have hr4 := Rd.of_own hown4
    have HR4 := Lib.hid hr4
    clear hown4 hg4 hr4
    have hbb : ∀ c ∈ put N ++ xs, c < 256 := by
      intro c hc
      rcases List.mem_append.1 hc with hc | hc
      · exact put_byte N hN64 c hc
      · exact HB1.out c hc
    have HBB := Lib.hid hbb
    clear hbb
    have ht4 : taken (take (put N ++ xs)) = .tuple #[.int .u64 (N : Int), .int .i64 (m : Int), .int .i64 0] := by rw [take_put N xs hN64, ← HM.out]; rfl
    have HT4 := Lib.hid ht4
    clear ht4
    go_wp2_with fail
    refine (take_any A4 (m + L) c4 _ (put N ++ xs) _ HBB.out HR4.out (by omega)).mono ?_
    rintro e' w5 ⟨rfl, rfl⟩
    rw [HT4.out]
    have hbw4 : Below w.heap.size w w4 := hb12.trans (hb4.mono (by omega))
    have HP4 := Lib.hid (HP.out.below hb4)
    have q1 : (m == m) = true := by simp
    go_wp2_with (go_at_call 13; refine (size_any _ _ (by omega) (by omega)).mono ?_; rintro e' w5 ⟨rfl, rfl⟩; rw [Int.toNat_natCast, ← HM.out])
    go_loop [12] (fun i => ∃ j : Nat, j ≤ m ∧ i = .int .i64 (j : Int)) (fun i => m - (intOf i).toNat)
    case atStart => exact ⟨0, by omega, rfl⟩
    case round =>
      obtain ⟨j, hj, rfl⟩ := hrel
      by_cases hlt : j < m
      · have hrj : Rd w4 w2.heap.size 1 Ap j (bvs ((put N).take j)) := by
          have h1 := HP4.out.take hj
          rw [Nat.mul_one] at h1
          simpa [bvs, List.map_take] using h1
        have HRJ := Lib.hid hrj
        have htj : taken (take ((put N).take j)) = .tuple #[.int .u64 0, .int .i64 0, .int .i64 2] := by rw [take_cut N j hN64 (by rw [← HM.out]; exact hlt)]; rfl
        have HTJ := Lib.hid htj
        clear hrj htj
        have e1 : (j : Int) ≤ (cp : Int) := by omega
        go_wp2_with fail
        refine (take_any Ap j cp _ _ _ (fun c hc => put_byte N hN64 c (List.mem_of_mem_take hc)) HRJ.out (by omega)).mono ?_
        rintro e' w5 ⟨rfl, rfl⟩
        rw [HTJ.out]
        go_wp2
        go_round
        case rel => exact ⟨j + 1, by omega, by go_num⟩
        case measure => simp [intOf]; omega
      · have hz := zig_rng k0 k1
        have hz2 := zag_rng h0 h1
        have hz3 : (zag (zig k) == k) = true := by rw [zag_zig]; simp
        have hz4 : (zig (zag (N : Int)) == (N : Int)) = true := by rw [zig_zag h0]; simp
        go_wp2_with (first
          | (go_at_call 15; refine (zig_any _ _ (by omega) (by omega)).mono ?_; rintro e' w5 ⟨rfl, rfl⟩)
          | (go_at_call 17; refine (zag_any _ _ (by omega) (by omega)).mono ?_; rintro e' w5 ⟨rfl, rfl⟩))
        all_goals go_ret
        all_goals exact ⟨by simp [zag_zig, zig_zag h0], hbw4⟩
end Go.Proofs.Ytabehpnbfdbmlaa.Vi
