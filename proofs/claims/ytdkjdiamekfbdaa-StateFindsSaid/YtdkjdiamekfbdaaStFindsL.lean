/-
  The walk of the law StateFinds.
-/
import Derived.Test.YtdkjdiamekfbdaaStLaw
namespace Go.Proofs.Ytdkjdiamekfbdaa
open Go.RowKit
open Rf (Snp)
open St (Ses Opn Sta mayS clientS openedS snapS keptS)

set_option maxHeartbeats 8000000 in
set_option maxRecDepth 100000 in
theorem stfindsl_any (s : Sta) (p : Pls) (x : Int) (u : World) (h : RdT u u.heap.size s p) (ht : Tok s) (hx0 : I64 x) : Calls Try.prog 7 #[stagg s p, .int .i64 x] u fun e w' => e = .returned (.bool true) ∧ Below u.heap.size u w' := by
  obtain ⟨w0, hw0, hk0, hb0, hs0⟩ := box_st u s p 26
  obtain ⟨s', hs'⟩ : ∃ s', lessT s = s' := ⟨_, rfl⟩
  have HTK := Lib.hid (show Tok s' by rw [← hs']; exact lessT_tok ht)
  have HSM := Lib.hid (show Small s' by rw [← hs']; exact lessT_small s)
  have HLN := Lib.hid (show s'.sess.length ≤ 20 ∧ s'.opens.length ≤ 20 ∧ s'.snaps.length ≤ 20 ∧ ∀ a ∈ s'.snaps, a.chunks.length ≤ 12 ∧ a.tag.length ≤ 40 by rw [← hs']; exact lessT_len s)
  have HLS := Lib.hid (fun (w : World) (hb : Below u.heap.size u w) => (by have := less_any s p u.heap.size w (h.below hb) hb.size; rw [hs'] at this; exact this : Calls Try.prog 10 #[stagg s p] w (LsBack w u.heap.size s')))
  have HK0 := Lib.hid hk0
  have HW := Lib.hid hw0
  clear h ht hs' hk0 hw0
  unfold stagg stblk
  go_enter Try.func7, Try.ntmps7
  go_upto_region 1 with fail
  rw [show u.alloc (.cells #[.int .i64 s.version, .int .i64 s.next, .int .i64 s.keep, .int .i64 s.quota, .slice p.a1 p.n1 p.c1, .slice p.a2 p.n2 p.c2, .slice p.a3 p.n3 p.c3] 26) = w0 from HW.out.symm]
  go_wp2_with fail
  refine (stshown_any _).mono ?_
  rintro e w1 ⟨rfl, hb1⟩
  have hbw1 : Below u.heap.size u w1 := hb0.trans (hb1.mono hb0.size)
  have hgl : u.heap.size < w1.heap.size := Nat.lt_of_lt_of_le hs0 hb1.size
  have hk1 := HK0.out.below hb1 hs0
  obtain ⟨c0, c1, c2, c3, c4, c5, c6⟩ := stblk_cells hk1
  have HK1 := Lib.hid hk1
  clear hk1
  go_wp2_with fail
  refine (HLS.out w1 hbw1).mono ?_
  rintro e w2 ⟨q, rfl, hlt, hb2⟩
  have hk2 := HK1.out.below hb2 hgl
  obtain ⟨d0, d1, d2, d3, d4, d5, d6⟩ := stblk_cells hk2
  have z0 := hk2.frozen 0
  have z1 := hk2.frozen 1
  have z2 := hk2.frozen 2
  have z3 := hk2.frozen 3
  have z4 := hk2.frozen 4
  have z5 := hk2.frozen 5
  have z6 := hk2.frozen 6
  have hbw2 : Below u.heap.size u w2 := hbw1.trans (hb2.mono hbw1.size)
  obtain ⟨hk3, hg3⟩ := stput_blk (s' := s') (q' := q) hk2
  have hlt3 := hlt.grown hg3 (Nat.le_refl _) hgl hbw2.size
  obtain ⟨w3, hw3⟩ : ∃ w3, w3 = stput w2 u.heap.size s' q := ⟨_, rfl⟩
  rw [← hw3] at hk3 hg3 hlt3
  have hbw3 : Below u.heap.size u w3 := hbw2.grown hg3 hbw2.size (fun k hk => by injection hk with hk; omega)
  have hl3 := hk3.lt
  have HRT := Lib.hid (hlt3.rdt hbw3.size)
  have HLT := Lib.hid hlt3
  have HK3 := Lib.hid hk3
  have HW3 := Lib.hid hw3
  clear hlt hlt3 hk2 hk3 hg3 hw3 c0 c1 c2 c3 c4 c5 c6
  unfold stagg stblk
  go_upto_region 6 with fail
  rw [show ((((((w2.setCell ⟨u.heap.size, 0, none⟩ (.int .i64 s'.version)).setCell ⟨u.heap.size, 1, none⟩ (.int .i64 s'.next)).setCell ⟨u.heap.size, 2, none⟩ (.int .i64 s'.keep)).setCell ⟨u.heap.size, 3, none⟩ (.int .i64 s'.quota)).setCell ⟨u.heap.size, 4, none⟩ (.slice q.a1 q.n1 q.c1)).setCell ⟨u.heap.size, 5, none⟩ (.slice q.a2 q.n2 q.c2)).setCell ⟨u.heap.size, 6, none⟩ (.slice q.a3 q.n3 q.c3) = w3 from HW3.out.symm]
  clear d0 d1 d2 d3 d4 d5 d6 z0 z1 z2 z3 z4 z5 z6
  obtain ⟨c0, c1, c2, c3, c4, c5, c6⟩ := stblk_cells HK3.out
  have m1 : q.n1 ≤ 20 := by rw [← HRT.out.sess.1]; exact HLN.out.1
  have m2 : q.n2 ≤ 20 := by rw [← HRT.out.opens.1]; exact HLN.out.2.1
  have m3 : q.n3 ≤ 20 := by rw [← HRT.out.snaps.1]; exact HLN.out.2.2.1
  obtain ⟨CA, hCA⟩ : ∃ c, clientS s' x = c := ⟨_, rfl⟩
  obtain ⟨CB, hCB⟩ : ∃ c, openedS s' x = c := ⟨_, rfl⟩
  obtain ⟨CC, hCC⟩ : ∃ c, snapS s' x = c := ⟨_, rfl⟩
  have HPA := Lib.hid (show placeFrom (fun y => y.client == x) s'.sess 0 = CA by rw [placeFrom_zero]; exact hCA)
  have HPB := Lib.hid (show placeFrom (fun y => y.set == x) s'.opens 0 = CB by rw [placeFrom_zero]; exact hCB)
  have HPC := Lib.hid (show placeFrom (fun y => y.id == x) s'.snaps 0 = CC by rw [placeFrom_zero]; exact hCC)
  have HCA := Lib.hid hCA
  have HCB := Lib.hid hCB
  have HCC := Lib.hid hCC
  have f1 : IntKind.i64.wrap ((q.n1 : Int) - 1) = (q.n1 : Int) - 1 := by rw [IntKind.wrap_i64]; omega
  clear hCA hCB hCC
  go_wp2
  go_loop [6, 9] (fun a i => ∃ (j : Nat) (z : Int), j ≤ q.n1 ∧ z = (j : Int) - 1 ∧ i = .int .i64 z ∧ a = .int .i64 (placeFrom (fun y => y.client == x) s'.sess j)) (fun _ i => (intOf i + 1).toNat)
  case atStart => exact ⟨q.n1, (q.n1 : Int) - 1, Nat.le_refl _, rfl, rfl, by rw [placeFrom_end (by rw [HRT.out.sess.1]; exact Nat.le_refl _)]⟩
  case round =>
    obtain ⟨j, z, hj, hz, rfl, rfl⟩ := hrel
    by_cases hj0 : j = 0
    · obtain rfl : z = -1 := by omega
      subst hj0
      clear hz
      rw [HPA.out]
      have f2 : IntKind.i64.wrap ((q.n2 : Int) - 1) = (q.n2 : Int) - 1 := by rw [IntKind.wrap_i64]; omega
      go_wp2
      go_loop [7, 10] (fun a i => ∃ (j : Nat) (z : Int), j ≤ q.n2 ∧ z = (j : Int) - 1 ∧ i = .int .i64 z ∧ a = .int .i64 (placeFrom (fun y => y.set == x) s'.opens j)) (fun _ i => (intOf i + 1).toNat)
      case atStart => exact ⟨q.n2, (q.n2 : Int) - 1, Nat.le_refl _, rfl, rfl, by rw [placeFrom_end (by rw [HRT.out.opens.1]; exact Nat.le_refl _)]⟩
      case round =>
        obtain ⟨j, z, hj, hz, rfl, rfl⟩ := hrel
        by_cases hj0 : j = 0
        · obtain rfl : z = -1 := by omega
          subst hj0
          clear hz
          rw [HPB.out]
          have f3 : IntKind.i64.wrap ((q.n3 : Int) - 1) = (q.n3 : Int) - 1 := by rw [IntKind.wrap_i64]; omega
          go_wp2
          go_loop [8, 11] (fun a i => ∃ (j : Nat) (z : Int), j ≤ q.n3 ∧ z = (j : Int) - 1 ∧ i = .int .i64 z ∧ a = .int .i64 (placeFrom (fun y => y.id == x) s'.snaps j)) (fun _ i => (intOf i + 1).toNat)
          case atStart => exact ⟨q.n3, (q.n3 : Int) - 1, Nat.le_refl _, rfl, rfl, by rw [placeFrom_end (by rw [HRT.out.snaps.1]; exact Nat.le_refl _)]⟩
          case round =>
            obtain ⟨j, z, hj, hz, rfl, rfl⟩ := hrel
            by_cases hj0 : j = 0
            · obtain rfl : z = -1 := by omega
              subst hj0
              clear hz
              rw [HPC.out]
              go_wp2_with fail
              refine (client_p s' q x w3 HRT.out HTK.out HSM.out hx0).mono ?_
              rintro e w4 ⟨rfl, hb4⟩
              rw [HCA.out]
              have hk4 := HK3.out.below hb4 hl3
              obtain ⟨d0, d1, d2, d3, d4, d5, d6⟩ := stblk_cells hk4
              have hl4 : u.heap.size < w4.heap.size := Nat.lt_of_lt_of_le hl3 hb4.size
              go_wp2_with fail
              refine (opened_p s' q x w4 ((HRT.out.below hb4).more hb4.size) HTK.out HSM.out hx0).mono ?_
              rintro e w5 ⟨rfl, hb5⟩
              rw [HCB.out]
              have hb35 := hb4.trans (hb5.mono hb4.size)
              have hk5 := hk4.below hb5 hl4
              obtain ⟨d0, d1, d2, d3, d4, d5, d6⟩ := stblk_cells hk5
              go_wp2_with fail
              refine (snapid_p s' q x w5 ((HRT.out.below hb35).more hb35.size) HTK.out HSM.out hx0).mono ?_
              rintro e w6 ⟨rfl, hb6⟩
              rw [HCC.out]
              go_wp2
              go_ret
              exact ⟨rfl, hbw3.trans ((hb35.trans (hb6.mono hb35.size)).mono hbw3.size)⟩
            · obtain ⟨k, rfl⟩ : ∃ k, j = k + 1 := ⟨j - 1, by omega⟩
              obtain rfl : z = (k : Int) := by omega
              have hlt : k < q.n3 := by omega
              obtain ⟨ad, y, t, had, hab, hx, _, g0, g1, g2, g3, g4, _, _, _⟩ := rds_get HRT.out.snaps hlt
              rw [had] at c6
              have HIT := Lib.hid (fun h => placeFrom_hit (p := fun y => y.id == x) hx h)
              have MISS := Lib.hid (fun h => placeFrom_miss (p := fun y => y.id == x) hx h)
              have f1 : IntKind.i64.wrap ((k : Int) - 1) = (k : Int) - 1 := by rw [IntKind.wrap_i64]; omega
              have b1 : (k : Int) < (q.n3 : Int) := by omega
              obtain ⟨D, hD⟩ : ∃ D, (y.id == x) = D := ⟨_, rfl⟩
              have HD := Lib.hid hD
              clear hx had hz hj0 hj
              cases D with
              | true =>
                have HF := Lib.hid (HIT.out HD.out)
                go_wp2
                go_round
                case rel => exact ⟨k, (k : Int) - 1, by omega, rfl, rfl, by rw [HF.out]⟩
                case measure => simp [intOf]
              | false =>
                have HF := Lib.hid (MISS.out HD.out)
                go_wp2
                go_round
                case rel => exact ⟨k, (k : Int) - 1, by omega, rfl, rfl, by rw [HF.out]⟩
                case measure => simp [intOf]
        · obtain ⟨k, rfl⟩ : ∃ k, j = k + 1 := ⟨j - 1, by omega⟩
          obtain rfl : z = (k : Int) := by omega
          have hlt : k < q.n2 := by omega
          obtain ⟨ad, y, had, hab, hx, g0, g1⟩ := rop_get HRT.out.opens hlt
          rw [had] at c5
          have HIT := Lib.hid (fun h => placeFrom_hit (p := fun y => y.set == x) hx h)
          have MISS := Lib.hid (fun h => placeFrom_miss (p := fun y => y.set == x) hx h)
          have f1 : IntKind.i64.wrap ((k : Int) - 1) = (k : Int) - 1 := by rw [IntKind.wrap_i64]; omega
          have b1 : (k : Int) < (q.n2 : Int) := by omega
          obtain ⟨D, hD⟩ : ∃ D, (y.set == x) = D := ⟨_, rfl⟩
          have HD := Lib.hid hD
          clear hx had hz hj0 hj
          cases D with
          | true =>
            have HF := Lib.hid (HIT.out HD.out)
            go_wp2
            go_round
            case rel => exact ⟨k, (k : Int) - 1, by omega, rfl, rfl, by rw [HF.out]⟩
            case measure => simp [intOf]
          | false =>
            have HF := Lib.hid (MISS.out HD.out)
            go_wp2
            go_round
            case rel => exact ⟨k, (k : Int) - 1, by omega, rfl, rfl, by rw [HF.out]⟩
            case measure => simp [intOf]
    · obtain ⟨k, rfl⟩ : ∃ k, j = k + 1 := ⟨j - 1, by omega⟩
      obtain rfl : z = (k : Int) := by omega
      have hlt : k < q.n1 := by omega
      obtain ⟨ad, y, had, hab, hx, g0, g1, g2, g3⟩ := rse_get HRT.out.sess hlt
      rw [had] at c4
      have HIT := Lib.hid (fun h => placeFrom_hit (p := fun y => y.client == x) hx h)
      have MISS := Lib.hid (fun h => placeFrom_miss (p := fun y => y.client == x) hx h)
      have f1 : IntKind.i64.wrap ((k : Int) - 1) = (k : Int) - 1 := by rw [IntKind.wrap_i64]; omega
      have b1 : (k : Int) < (q.n1 : Int) := by omega
      obtain ⟨D, hD⟩ : ∃ D, (y.client == x) = D := ⟨_, rfl⟩
      have HD := Lib.hid hD
      clear hx had hz hj0 hj
      cases D with
      | true =>
        have HF := Lib.hid (HIT.out HD.out)
        go_wp2
        go_round
        case rel => exact ⟨k, (k : Int) - 1, by omega, rfl, rfl, by rw [HF.out]⟩
        case measure => simp [intOf]
      | false =>
        have HF := Lib.hid (MISS.out HD.out)
        go_wp2
        go_round
        case rel => exact ⟨k, (k : Int) - 1, by omega, rfl, rfl, by rw [HF.out]⟩
        case measure => simp [intOf]
end Go.Proofs.Ytdkjdiamekfbdaa
