/-
  The walks of the reference of layer 7: in, Fresh, Client, Opened, Snap.
-/
import Derived.Test.YtdkjdiamekfbdaaStMem
import Derived.Test.YtdkjdiamekfbdaaCmRowW
import Derived.BigQuiet
namespace Go.Proofs.Ytdkjdiamekfbdaa
open Go.RowKit
open Rf (Snp)
open St (Ses Opn Sta place clientS openedS snapS)
open Cm (inR inR_iff)

set_option maxRecDepth 100000 in
theorem in7_any (x a b : Int) (w : World) : Calls Try.prog 37 #[.int .i64 x, .int .i64 a, .int .i64 b] w fun e w' => e = .returned (.bool (inR x a b)) ∧ w = w' := by
  by_cases h1 : a ≤ x
  · by_cases h2 : x ≤ b
    · have HV := Lib.hid (show inR x a b = true by simp [inR, h1, h2])
      go_enter Try.func37, Try.ntmps37
      go_wp2_with fail
      go_ret
      exact ⟨by rw [HV.out]; rfl, rfl⟩
    · have HV := Lib.hid (show inR x a b = false by simp [inR, h1, h2])
      go_enter Try.func37, Try.ntmps37
      go_wp2_with fail
      go_ret
      exact ⟨by rw [HV.out]; rfl, rfl⟩
  · have HV := Lib.hid (show inR x a b = false by simp [inR, h1])
    go_enter Try.func37, Try.ntmps37
    go_wp2_with fail
    go_ret
    exact ⟨by rw [HV.out]; rfl, rfl⟩
theorem in7_e {x a b : Int} {v : Bool} (h : inR x a b = v) (w : World) : Calls Try.prog 37 #[.int .i64 x, .int .i64 a, .int .i64 b] w fun e w' => e = .returned (.bool v) ∧ w = w' :=
  (in7_any x a b w).mono fun _ _ hh => ⟨by rw [hh.1, h], hh.2⟩
/-- .. for a region that draws its order. -/
theorem in7_q {x a b : Int} {v : Bool} (h : inR x a b = v) (w : World) : Calls Try.prog 37 #[.int .i64 x, .int .i64 a, .int .i64 b] w fun e w' => e = .returned (.bool v) ∧ w' = w :=
  (in7_any x a b w).mono fun _ _ hh => ⟨by rw [hh.1, h], hh.2.symm⟩

set_option maxRecDepth 100000 in
theorem fresh7_any (w : World) : Calls Try.prog 13 #[] w fun e w' => e = .returned (stagg St.fresh noPls) ∧ Below w.heap.size w w' := by
  go_enter Try.func13, Try.ntmps13
  go_wp2
  (try simp only [Exit.inBlock, Exit.then])
  exact bodyPost_ret (results_cell_row rfl _ _ w.heap.size 26 (stblk St.fresh noPls) (0, 0) _ rfl (heap_alloc_new w _) Try.underlying26 rfl (by kernel_rfl)) rfl ⟨rfl, (Below.refl _ _).alloc (Nat.le_refl _) _⟩

/-- Places, from some place on. -/
def placeFrom {α : Type} (p : α → Bool) (l : List α) (j : Nat) : Int := match (l.drop j).findIdx? p with
  | some i => (j + i : Nat)
  | none => -1
theorem placeFrom_zero {α : Type} (p : α → Bool) (l : List α) : placeFrom p l 0 = place p l := by
  unfold placeFrom place
  rw [List.drop_zero]
  cases l.findIdx? p with
  | none => rfl
  | some i => simp
theorem placeFrom_hit {α : Type} {p : α → Bool} {l : List α} {j : Nat} {x : α} (h : l[j]? = some x) (hp : p x = true) : placeFrom p l j = (j : Int) := by
  unfold placeFrom
  have hlt := (List.getElem?_eq_some_iff.1 h).1
  rw [List.drop_eq_getElem_cons hlt, show l[j] = x by rw [List.getElem?_eq_getElem hlt] at h; exact Option.some.inj h, List.findIdx?_cons, if_pos hp]
  simp
theorem placeFrom_miss {α : Type} {p : α → Bool} {l : List α} {j : Nat} {x : α} (h : l[j]? = some x) (hp : p x = false) : placeFrom p l j = placeFrom p l (j + 1) := by
  unfold placeFrom
  have hlt := (List.getElem?_eq_some_iff.1 h).1
  rw [List.drop_eq_getElem_cons hlt, show l[j] = x by rw [List.getElem?_eq_getElem hlt] at h; exact Option.some.inj h, List.findIdx?_cons, if_neg (by rw [hp]; decide)]
  cases (l.drop (j + 1)).findIdx? p with
  | none => rfl
  | some i => simp; omega
theorem placeFrom_end {α : Type} {p : α → Bool} {l : List α} {j : Nat} (h : l.length ≤ j) : placeFrom p l j = -1 := by
  unfold placeFrom
  rw [List.drop_of_length_le h]; rfl

set_option maxHeartbeats 1000000 in
set_option maxRecDepth 100000 in
theorem client7_any (s : Sta) (p : Pls) (x : Int) (w : World) (h : RdT w w.heap.size s p) (_ht : Tok s) (_hx : I64 x) : Calls Try.prog 17 #[stagg s p, .int .i64 x] w fun e w' => e = .returned (.int .i64 (clientS s x)) ∧ Below w.heap.size w w' := by
  obtain ⟨w0, hw0, hk0, hb0, hs0⟩ := box_st w s p 26
  have hc := stblk_cells hk0
  have HV := Lib.hid (show clientS s x = placeFrom (fun y => y.client == x) s.sess 0 from (placeFrom_zero _ _).symm)
  have HR := Lib.hid ((h.sess.below hb0).more (Nat.le_of_lt hs0))
  have HL := Lib.hid (h.sess.1)
  obtain ⟨q0, q1⟩ := h.k1
  have HW := Lib.hid hw0
  obtain ⟨a1, n1, c1, hpe⟩ : ∃ a n c, p.a1 = a ∧ p.n1 = n ∧ p.c1 = c := ⟨_, _, _, rfl, rfl, rfl⟩
  obtain ⟨e1, e2, e3⟩ := hpe
  rw [e1, e2, e3] at hc
  rw [e1, e2] at HR
  rw [e2] at HL
  rw [e2, e3] at q0
  rw [e3] at q1
  obtain ⟨c0, c1, c2, c3, c4, c5, c6⟩ := hc
  clear h hw0 hk0 e1 e2 e3 c0 c1 c2 c3 c5 c6
  unfold stagg stblk
  go_enter Try.func17, Try.ntmps17
  go_upto_region 1 with fail
  rw [show (w.alloc (.cells #[.int .i64 s.version, .int .i64 s.next, .int .i64 s.keep, .int .i64 s.quota, .slice p.a1 p.n1 p.c1, .slice p.a2 p.n2 p.c2, .slice p.a3 p.n3 p.c3] 26)) = w0 from HW.out.symm]
  go_wp2
  go_loop [5] (fun i => ∃ j : Nat, j ≤ n1 ∧ i = .int .i64 (j : Int) ∧ placeFrom (fun y => y.client == x) s.sess 0 = placeFrom (fun y => y.client == x) s.sess j) (fun i => n1 - (intOf i).toNat)
  case atStart => exact ⟨0, Nat.zero_le _, rfl, rfl⟩
  case round =>
    obtain ⟨j, hj, rfl, hp⟩ := hrel
    have HP := Lib.hid hp
    clear hp
    by_cases hlt : j < n1
    · obtain ⟨ad, y, rfl, hab, hx, g0, g1, g2, g3⟩ := rse_get HR.out hlt
      have HIT := Lib.hid (fun h => placeFrom_hit (p := fun y => y.client == x) hx h)
      have MISS := Lib.hid (fun h => placeFrom_miss (p := fun y => y.client == x) hx h)
      clear hx
      obtain ⟨D, hD⟩ : ∃ D, (y.client == x) = D := ⟨_, rfl⟩
      have HD := Lib.hid hD
      cases D with
      | true =>
        have HF := Lib.hid (HIT.out HD.out)
        go_wp2
        go_ret
        exact ⟨by rw [HV.out, HP.out, HF.out]; rfl, hb0⟩
      | false =>
        have HF := Lib.hid (MISS.out HD.out)
        go_wp2
        go_round
        case rel => exact ⟨j + 1, by omega, by go_num, by rw [HP.out, HF.out]⟩
        case measure => simp [intOf]; omega
    · obtain rfl : j = n1 := by omega
      have HF := Lib.hid (placeFrom_end (p := fun y => y.client == x) (l := s.sess) (j := j) (by rw [HL.out]; exact Nat.le_refl _))
      go_wp2
      go_ret
      exact ⟨by rw [HV.out, HP.out, HF.out]; rfl, hb0⟩


set_option maxHeartbeats 1000000 in
set_option maxRecDepth 100000 in
theorem opened7_any (s : Sta) (p : Pls) (x : Int) (w : World) (h : RdT w w.heap.size s p) (_ht : Tok s) (_hx : I64 x) : Calls Try.prog 19 #[stagg s p, .int .i64 x] w fun e w' => e = .returned (.int .i64 (openedS s x)) ∧ Below w.heap.size w w' := by
  obtain ⟨w0, hw0, hk0, hb0, hs0⟩ := box_st w s p 26
  have hc := stblk_cells hk0
  have HV := Lib.hid (show openedS s x = placeFrom (fun y => y.set == x) s.opens 0 from (placeFrom_zero _ _).symm)
  have HR := Lib.hid ((h.opens.below hb0).more (Nat.le_of_lt hs0))
  have HL := Lib.hid (h.opens.1)
  obtain ⟨q0, q1⟩ := h.k2
  have HW := Lib.hid hw0
  obtain ⟨a2, n2, c2, hpe⟩ : ∃ a n c, p.a2 = a ∧ p.n2 = n ∧ p.c2 = c := ⟨_, _, _, rfl, rfl, rfl⟩
  obtain ⟨e1, e2, e3⟩ := hpe
  rw [e1, e2, e3] at hc
  rw [e1, e2] at HR
  rw [e2] at HL
  rw [e2, e3] at q0
  rw [e3] at q1
  obtain ⟨c0, c1, c2, c3, c4, c5, c6⟩ := hc
  clear h hw0 hk0 e1 e2 e3 c0 c1 c2 c3 c4 c6
  unfold stagg stblk
  go_enter Try.func19, Try.ntmps19
  go_upto_region 1 with fail
  rw [show (w.alloc (.cells #[.int .i64 s.version, .int .i64 s.next, .int .i64 s.keep, .int .i64 s.quota, .slice p.a1 p.n1 p.c1, .slice p.a2 p.n2 p.c2, .slice p.a3 p.n3 p.c3] 26)) = w0 from HW.out.symm]
  go_wp2
  go_loop [5] (fun i => ∃ j : Nat, j ≤ n2 ∧ i = .int .i64 (j : Int) ∧ placeFrom (fun y => y.set == x) s.opens 0 = placeFrom (fun y => y.set == x) s.opens j) (fun i => n2 - (intOf i).toNat)
  case atStart => exact ⟨0, Nat.zero_le _, rfl, rfl⟩
  case round =>
    obtain ⟨j, hj, rfl, hp⟩ := hrel
    have HP := Lib.hid hp
    clear hp
    by_cases hlt : j < n2
    · obtain ⟨ad, y, rfl, hab, hx, g0, g1⟩ := rop_get HR.out hlt
      have HIT := Lib.hid (fun h => placeFrom_hit (p := fun y => y.set == x) hx h)
      have MISS := Lib.hid (fun h => placeFrom_miss (p := fun y => y.set == x) hx h)
      clear hx
      obtain ⟨D, hD⟩ : ∃ D, (y.set == x) = D := ⟨_, rfl⟩
      have HD := Lib.hid hD
      cases D with
      | true =>
        have HF := Lib.hid (HIT.out HD.out)
        go_wp2
        go_ret
        exact ⟨by rw [HV.out, HP.out, HF.out]; rfl, hb0⟩
      | false =>
        have HF := Lib.hid (MISS.out HD.out)
        go_wp2
        go_round
        case rel => exact ⟨j + 1, by omega, by go_num, by rw [HP.out, HF.out]⟩
        case measure => simp [intOf]; omega
    · obtain rfl : j = n2 := by omega
      have HF := Lib.hid (placeFrom_end (p := fun y => y.set == x) (l := s.opens) (j := j) (by rw [HL.out]; exact Nat.le_refl _))
      go_wp2
      go_ret
      exact ⟨by rw [HV.out, HP.out, HF.out]; rfl, hb0⟩


set_option maxHeartbeats 1000000 in
set_option maxRecDepth 100000 in
theorem snap7id_any (s : Sta) (p : Pls) (x : Int) (w : World) (h : RdT w w.heap.size s p) (_ht : Tok s) (_hx : I64 x) : Calls Try.prog 21 #[stagg s p, .int .i64 x] w fun e w' => e = .returned (.int .i64 (snapS s x)) ∧ Below w.heap.size w w' := by
  obtain ⟨w0, hw0, hk0, hb0, hs0⟩ := box_st w s p 26
  have hc := stblk_cells hk0
  have HV := Lib.hid (show snapS s x = placeFrom (fun y => y.id == x) s.snaps 0 from (placeFrom_zero _ _).symm)
  have HR := Lib.hid ((h.snaps.below hb0).more (Nat.le_of_lt hs0))
  have HL := Lib.hid (h.snaps.1)
  obtain ⟨q0, q1⟩ := h.k3
  have HW := Lib.hid hw0
  obtain ⟨a3, n3, c3, hpe⟩ : ∃ a n c, p.a3 = a ∧ p.n3 = n ∧ p.c3 = c := ⟨_, _, _, rfl, rfl, rfl⟩
  obtain ⟨e1, e2, e3⟩ := hpe
  rw [e1, e2, e3] at hc
  rw [e1, e2] at HR
  rw [e2] at HL
  rw [e2, e3] at q0
  rw [e3] at q1
  obtain ⟨c0, c1, c2, c3, c4, c5, c6⟩ := hc
  clear h hw0 hk0 e1 e2 e3 c0 c1 c2 c3 c4 c5
  unfold stagg stblk
  go_enter Try.func21, Try.ntmps21
  go_upto_region 1 with fail
  rw [show (w.alloc (.cells #[.int .i64 s.version, .int .i64 s.next, .int .i64 s.keep, .int .i64 s.quota, .slice p.a1 p.n1 p.c1, .slice p.a2 p.n2 p.c2, .slice p.a3 p.n3 p.c3] 26)) = w0 from HW.out.symm]
  go_wp2
  go_loop [5] (fun i => ∃ j : Nat, j ≤ n3 ∧ i = .int .i64 (j : Int) ∧ placeFrom (fun y => y.id == x) s.snaps 0 = placeFrom (fun y => y.id == x) s.snaps j) (fun i => n3 - (intOf i).toNat)
  case atStart => exact ⟨0, Nat.zero_le _, rfl, rfl⟩
  case round =>
    obtain ⟨j, hj, rfl, hp⟩ := hrel
    have HP := Lib.hid hp
    clear hp
    by_cases hlt : j < n3
    · obtain ⟨ad, y, t, rfl, hab, hx, _, g0, g1, g2, g3, g4, _, _, _⟩ := rds_get HR.out hlt
      have HIT := Lib.hid (fun h => placeFrom_hit (p := fun y => y.id == x) hx h)
      have MISS := Lib.hid (fun h => placeFrom_miss (p := fun y => y.id == x) hx h)
      clear hx
      obtain ⟨D, hD⟩ : ∃ D, (y.id == x) = D := ⟨_, rfl⟩
      have HD := Lib.hid hD
      cases D with
      | true =>
        have HF := Lib.hid (HIT.out HD.out)
        go_wp2
        go_ret
        exact ⟨by rw [HV.out, HP.out, HF.out]; rfl, hb0⟩
      | false =>
        have HF := Lib.hid (MISS.out HD.out)
        go_wp2
        go_round
        case rel => exact ⟨j + 1, by omega, by go_num, by rw [HP.out, HF.out]⟩
        case measure => simp [intOf]; omega
    · obtain rfl : j = n3 := by omega
      have HF := Lib.hid (placeFrom_end (p := fun y => y.id == x) (l := s.snaps) (j := j) (by rw [HL.out]; exact Nat.le_refl _))
      go_wp2
      go_ret
      exact ⟨by rw [HV.out, HP.out, HF.out]; rfl, hb0⟩

end Go.Proofs.Ytdkjdiamekfbdaa
