/-
  The walk of the reference of layer 7: Kept.
-/
import Derived.Test.YtdkjdiamekfbdaaStIn
namespace Go.Proofs.Ytdkjdiamekfbdaa
open Go.RowKit
open Rf (Snp)
open St (Sta behind keptS)

theorem keptS_some {s : Sta} {k : Nat} {x : Snp} (h : s.snaps[k]? = some x) : keptS s (k : Int) = decide ((behind s.snaps k x.set : Int) < s.keep) := by
  unfold keptS
  rw [Int.toNat_natCast, h]
  simp
theorem keptS_none {s : Sta} {a : Int} (h : a < 0 ∨ (s.snaps.length : Int) ≤ a) : keptS s a = false := by
  unfold keptS
  rcases h with h | h
  · cases s.snaps[a.toNat]? with
    | none => rfl
    | some x => simp only []; rw [decide_eq_false (show ¬ 0 ≤ a by omega)]; rfl
  · rw [List.getElem?_eq_none (by omega)]
/-- How many of them up to a place have that set. -/
def setTo (l : List Snp) (k j : Nat) (set : Int) : Nat := ((l.take j).drop (k + 1)).countP fun x => x.set == set
theorem setTo_zero (l : List Snp) (k : Nat) (set : Int) : setTo l k (k + 1) set = 0 := by
  unfold setTo
  rw [List.drop_of_length_le (by rw [List.length_take]; omega)]; rfl
theorem setTo_step {l : List Snp} {k j : Nat} {y : Snp} (h : l[j]? = some y) (hk : k + 1 ≤ j) (set : Int) : setTo l k (j + 1) set = setTo l k j set + if (y.set == set) = true then 1 else 0 := by
  unfold setTo
  have hl := (List.getElem?_eq_some_iff.1 h).1
  rw [List.take_add_one, List.drop_append_of_le_length (by rw [List.length_take]; omega), List.countP_append, h]
  simp only [Option.toList_some, List.countP_cons, List.countP_nil, Nat.zero_add]
theorem setTo_all {l : List Snp} {k j : Nat} (h : l.length ≤ j) (set : Int) : setTo l k j set = behind l k set := by
  unfold setTo behind
  rw [List.take_of_length_le h]

theorem drew_two7 (w : World) (a b : Nat) : (w.drewN a).drewN b = w.drewN (a + b) := by simp [World.drewN, Nat.add_assoc]

set_option maxHeartbeats 2000000 in
set_option maxRecDepth 100000 in
theorem kept7_any (s : Sta) (p : Pls) (a : Int) (w : World) (h : RdT w w.heap.size s p) (_ht : Tok s) (_hx : I64 a) : Calls Try.prog 23 #[stagg s p, .int .i64 a] w fun e w' => e = .returned (.bool (keptS s a)) ∧ Below w.heap.size w w' := by
  obtain ⟨w0, hw0, hk0, hb0, hs0⟩ := box_st w s p 26
  have hc := stblk_cells hk0
  have HR := Lib.hid ((h.snaps.below hb0).more (Nat.le_of_lt hs0))
  have HL := Lib.hid (h.snaps.1)
  obtain ⟨q0, q1⟩ := h.k3
  have HW := Lib.hid hw0
  obtain ⟨a3, n3, c3, hpe⟩ : ∃ a n c, p.a3 = a ∧ p.n3 = n ∧ p.c3 = c := ⟨_, _, _, rfl, rfl, rfl⟩
  obtain ⟨e1, e2, e3⟩ := hpe
  rw [e1, e2, e3] at hc
  rw [e1, e2] at HR
  rw [e2] at HL
  rw [e2, e3] at q0
  rw [e3] at q1
  obtain ⟨c0, c1, c2, c3', c4, c5, c6⟩ := hc
  clear h hw0 hk0 e1 e2 e3 c0 c1 c3' c4 c5
  unfold stagg stblk
  by_cases hin : 0 ≤ a ∧ a < n3
  · obtain ⟨k, rfl⟩ : ∃ k : Nat, a = (k : Int) := ⟨a.toNat, by omega⟩
    have hk : k < n3 := by omega
    obtain ⟨ad, x, t, rfl, hab, hx, _, g0, g1, g2, g3, g4, _, _, _⟩ := rds_get HR.out hk
    have HV := Lib.hid (keptS_some hx)
    have b1 : (k : Int) < (n3 : Int) := by omega
    have b0 : ¬ ((k : Int) < 0) := by omega
    have b2 : ¬ ((n3 : Int) ≤ (k : Int)) := by omega
    clear hx g0 g2 g3 g4 hin
    go_enter Try.func23, Try.ntmps23
    go_upto_region 1 with fail
    rw [show (w.alloc (.cells #[.int .i64 s.version, .int .i64 s.next, .int .i64 s.keep, .int .i64 s.quota, .slice p.a1 p.n1 p.c1, .slice p.a2 p.n2 p.c2, .slice p.a3 p.n3 p.c3] 26)) = w0 from HW.out.symm]
    go_wp2
    have e1 : ((k + 1 : Nat) : Int) = (k : Int) + 1 := by simp
    go_loopw [5, 6] (fun m i wr => ∃ (j mm : Nat) (dd : Nat), k + 1 ≤ j ∧ j ≤ n3 ∧ i = .int .i64 (j : Int) ∧ m = .int .i64 (mm : Int) ∧ mm ≤ j ∧ setTo s.snaps k j x.set = mm ∧ wr = w0.drewN dd) (fun _ i _ => n3 - (intOf i).toNat)
    case atStart => exact ⟨k + 1, 0, 0, Nat.le_refl _, by omega, by rw [e1], rfl, Nat.zero_le _, setTo_zero _ _ _, rfl⟩
    case round =>
      clear e1
      obtain ⟨j, mm, dd, hkj, hj, rfl, rfl, hmm, hcn, rfl⟩ := hrel
      have HC := Lib.hid hcn
      clear hcn
      by_cases hlt : j < n3
      · obtain ⟨ad', y, t', had, hab', hy, _, k0, k1, k2, k3, k4, _, _, _⟩ := rds_get HR.out hlt
        obtain rfl : ad = ad' := by injection had
        have b3 : (j : Int) < (n3 : Int) := by omega
        have hst := setTo_step hy hkj x.set
        rw [HC.out] at hst
        clear hy k0 k2 k3 k4 had
        obtain ⟨D, hD⟩ : ∃ D, (y.set == x.set) = D := ⟨_, rfl⟩
        rw [hD] at hst
        have HS := Lib.hid hst
        clear hst
        go_upto_region 7 with fail
        go_quiet (fail)
        cases D with
        | true =>
          go_wp2
          go_roundw
          case rel => exact ⟨j + 1, mm + 1, _, by omega, by omega, by go_num, by go_num, by omega, HS.out, rfl⟩
          case measure => simp [intOf]; omega
        | false =>
          go_wp2
          go_roundw
          case rel => exact ⟨j + 1, mm, _, by omega, by omega, by go_num, rfl, by omega, HS.out, rfl⟩
          case measure => simp [intOf]; omega
      · obtain rfl : j = n3 := by omega
        have hal := setTo_all (l := s.snaps) (k := k) (j := j) (by rw [HL.out]; exact Nat.le_refl _) x.set
        rw [HC.out] at hal
        have HA := Lib.hid hal
        clear hal
        obtain ⟨D, hD⟩ : ∃ D, decide ((mm : Int) < s.keep) = D := ⟨_, rfl⟩
        have HD := Lib.hid hD
        go_wp2
        go_ret
        exact ⟨by rw [HV.out, ← HA.out, HD.out]; rfl, bel_drew' hb0 _⟩
  · have HV := Lib.hid (keptS_none (s := s) (a := a) (by rw [HL.out]; omega))
    by_cases h0 : a < 0
    · clear hin
      go_enter Try.func23, Try.ntmps23
      go_upto_region 1 with fail
      rw [show (w.alloc (.cells #[.int .i64 s.version, .int .i64 s.next, .int .i64 s.keep, .int .i64 s.quota, .slice p.a1 p.n1 p.c1, .slice p.a2 p.n2 p.c2, .slice p.a3 p.n3 p.c3] 26)) = w0 from HW.out.symm]
      go_wp2
      go_ret
      exact ⟨by rw [HV.out]; rfl, hb0⟩
    · have h1 : (n3 : Int) ≤ a := by omega
      clear hin
      go_enter Try.func23, Try.ntmps23
      go_upto_region 1 with fail
      rw [show (w.alloc (.cells #[.int .i64 s.version, .int .i64 s.next, .int .i64 s.keep, .int .i64 s.quota, .slice p.a1 p.n1 p.c1, .slice p.a2 p.n2 p.c2, .slice p.a3 p.n3 p.c3] 26)) = w0 from HW.out.symm]
      go_wp2
      go_ret
      exact ⟨by rw [HV.out]; rfl, hb0⟩
end Go.Proofs.Ytdkjdiamekfbdaa
