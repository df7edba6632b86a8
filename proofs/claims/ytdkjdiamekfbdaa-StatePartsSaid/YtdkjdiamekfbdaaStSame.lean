/-
  The walk of the reference of layer 7: Same.
-/
import Derived.Test.YtdkjdiamekfbdaaStIn
import Derived.Test.YtdkjdiamekfbdaaRfSameAll
namespace Go.Proofs.Ytdkjdiamekfbdaa
open Go.RowKit
open Rf (Snp)
open St (Ses Opn Sta)

theorem guard_se : Try.prog.eqGuardType Try.prog.depth 42 = false := by kernel_rfl
theorem guard_op : Try.prog.eqGuardType Try.prog.depth 44 = false := by kernel_rfl
theorem op_if {s t : Opn} {D : Bool} (h : decide (s = t) = D) (w : World) : (if s.set = t.set then
      if s.client = t.client then Result.ok (Next.value (Value.bool false)) w
      else Result.ok (Next.value (Value.bool true)) w
    else Result.ok (Next.value (Value.bool true)) w) = Result.ok (Next.value (Value.bool !D)) w := by
  subst h
  obtain ⟨a, b⟩ := s
  obtain ⟨a', b'⟩ := t
  simp only [Opn.mk.injEq]
  repeat' split
  all_goals simp_all
theorem se_if {s t : Ses} {D : Bool} (h : decide (s = t) = D) (w : World) : (if s.client = t.client then
      if s.seq = t.seq then
        if s.code = t.code then
          if s.n = t.n then Result.ok (Next.value (Value.bool false)) w
          else Result.ok (Next.value (Value.bool true)) w
        else Result.ok (Next.value (Value.bool true)) w
      else Result.ok (Next.value (Value.bool true)) w
    else Result.ok (Next.value (Value.bool true)) w) = Result.ok (Next.value (Value.bool !D)) w := by
  subst h
  obtain ⟨a, b, c, d⟩ := s
  obtain ⟨a', b', c', d'⟩ := t
  simp only [Ses.mk.injEq]
  repeat' split
  all_goals simp_all
theorem at_same {α : Type} {l l' : List α} {j : Nat} {f f' : α} (h : l = l') (hf : l[j]? = some f) (hf' : l'[j]? = some f') : f = f' := by
  subst h
  rw [hf] at hf'
  exact Option.some.inj hf'
theorem sta_eq (s t : Sta) : s = t ↔ s.version = t.version ∧ s.next = t.next ∧ s.keep = t.keep ∧ s.quota = t.quota ∧ s.sess = t.sess ∧ s.opens = t.opens ∧ s.snaps = t.snaps := by
  cases s; cases t
  simp

set_option maxHeartbeats 8000000 in
set_option maxRecDepth 100000 in
theorem same7_any (s t : Sta) (p q : Pls) (u : World) (h : RdT u u.heap.size s p) (h' : RdT u u.heap.size t q) (hs : Tok s) (ht : Tok t) : Calls Try.prog 25 #[stagg s p, stagg t q] u fun e u' => e = .returned (.bool (decide (s = t))) ∧ Below u.heap.size u u' := by
  obtain ⟨u0, hu0, hk0, hb0, hs0⟩ := box_st u s p 26
  obtain ⟨u1, hu1, hk1, hb1, hs1⟩ := box_st u0 t q 26
  have hs01 : u0.heap.size = u.heap.size + 1 := by rw [hu0]; simp
  have hbw1 : Below u.heap.size u u1 := hb0.trans (hb1.mono (Nat.le_of_lt hs0))
  obtain ⟨y0, y1, y2, y3, y4, y5, y6⟩ := stblk_cells (hk0.below hb1 hs0)
  have hz := stblk_cells hk1
  rw [hs01] at hz
  obtain ⟨z0, z1, z2, z3, z4, z5, z6⟩ := hz
  have hr := (h.below hbw1).more hbw1.size
  have hr' := (h'.below hbw1).more hbw1.size
  have HW := Lib.hid (show u1 = (u.alloc (.cells (stblk s p) 26)).alloc (.cells (stblk t q) 26) by rw [hu1, hu0])
  have hl0 : u.heap.size < u1.heap.size := Nat.lt_trans hs0 hs1
  have hl1 : u.heap.size + 1 < u1.heap.size := by have := hs1; have := hs0; omega
  clear h h' hu0 hu1 hk0 hk1 hb0 hb1 hs0 hs1 hs01
  obtain ⟨a1, n1, c1, a2, n2, c2, a3, n3, c3, S⟩ := p
  obtain ⟨b1, m1, d1, b2, m2, d2, b3, m3, d3, T⟩ := q
  simp only [] at y4 y5 y6 z4 z5 z6
  obtain ⟨r1, r2, r3, ⟨i1, i1'⟩, ⟨i2, i2'⟩, ⟨i3, i3'⟩⟩ := hr
  obtain ⟨t1, t2, t3, ⟨j1, j1'⟩, ⟨j2, j2'⟩, ⟨j3, j3'⟩⟩ := hr'
  simp only [] at r1 r2 r3 t1 t2 t3 i1 i1' i2 i2' i3 i3' j1 j1' j2 j2' j3 j3'
  have HR1 := Lib.hid r1
  have HR2 := Lib.hid r2
  have HR3 := Lib.hid r3
  have HT1 := Lib.hid t1
  have HT2 := Lib.hid t2
  have HT3 := Lib.hid t3
  have HK := Lib.hid hs
  have HK' := Lib.hid ht
  clear r1 r2 r3 t1 t2 t3 hs ht
  obtain ⟨E, hE⟩ : ∃ E, decide (s = t) = E := ⟨_, rfl⟩
  have HE := Lib.hid hE
  rw [hE]
  clear hE
  unfold stagg stblk
  go_enter Try.func25, Try.ntmps25
  go_upto_region 1 with fail
  rw [show (u.alloc (.cells #[.int .i64 s.version, .int .i64 s.next, .int .i64 s.keep, .int .i64 s.quota, .slice a1 n1 c1, .slice a2 n2 c2, .slice a3 n3 c3] 26)).alloc (.cells #[.int .i64 t.version, .int .i64 t.next, .int .i64 t.keep, .int .i64 t.quota, .slice b1 m1 d1, .slice b2 m2 d2, .slice b3 m3 d3] 26) = u1 from HW.out.symm]
  by_cases e0 : s.version = t.version
  case neg =>
    obtain rfl : E = false := by rw [← HE.out]; exact decide_eq_false fun h => e0 (congrArg Sta.version h)
    have f0 : (s.version != t.version) = true := by rw [bne_iff_ne]; exact e0
    go_wp2
    go_ret
    exact ⟨rfl, hbw1⟩
  have f0 : (s.version != t.version) = false := by rw [e0]; simp
  have E0 := Lib.hid e0
  clear e0
  by_cases e1 : s.next = t.next
  case neg =>
    obtain rfl : E = false := by rw [← HE.out]; exact decide_eq_false fun h => e1 (congrArg Sta.next h)
    have f1 : (s.next != t.next) = true := by rw [bne_iff_ne]; exact e1
    go_wp2
    go_ret
    exact ⟨rfl, hbw1⟩
  have f1 : (s.next != t.next) = false := by rw [e1]; simp
  have E1 := Lib.hid e1
  clear e1
  by_cases e2 : s.keep = t.keep
  case neg =>
    obtain rfl : E = false := by rw [← HE.out]; exact decide_eq_false fun h => e2 (congrArg Sta.keep h)
    have f2 : (s.keep != t.keep) = true := by rw [bne_iff_ne]; exact e2
    go_wp2
    go_ret
    exact ⟨rfl, hbw1⟩
  have f2 : (s.keep != t.keep) = false := by rw [e2]; simp
  have E2 := Lib.hid e2
  clear e2
  by_cases e3 : s.quota = t.quota
  case neg =>
    obtain rfl : E = false := by rw [← HE.out]; exact decide_eq_false fun h => e3 (congrArg Sta.quota h)
    have f3 : (s.quota != t.quota) = true := by rw [bne_iff_ne]; exact e3
    go_wp2
    go_ret
    exact ⟨rfl, hbw1⟩
  have f3 : (s.quota != t.quota) = false := by rw [e3]; simp
  have E3 := Lib.hid e3
  clear e3
  by_cases e4 : n1 = m1
  case neg =>
    obtain rfl : E = false := by rw [← HE.out]; exact decide_eq_false fun h => e4 (by rw [← HR1.out.1, ← HT1.out.1, h])
    have f4 : ((n1 : Int) != (m1 : Int)) = true := by rw [bne_iff_ne]; omega
    go_wp2
    go_ret
    exact ⟨rfl, hbw1⟩
  have f4 : ((n1 : Int) != (m1 : Int)) = false := by rw [e4]; simp
  have E4 := Lib.hid e4
  clear e4
  by_cases e5 : n2 = m2
  case neg =>
    obtain rfl : E = false := by rw [← HE.out]; exact decide_eq_false fun h => e5 (by rw [← HR2.out.1, ← HT2.out.1, h])
    have f5 : ((n2 : Int) != (m2 : Int)) = true := by rw [bne_iff_ne]; omega
    go_wp2
    go_ret
    exact ⟨rfl, hbw1⟩
  have f5 : ((n2 : Int) != (m2 : Int)) = false := by rw [e5]; simp
  have E5 := Lib.hid e5
  clear e5
  go_wp2
  go_loopw [5] (fun i wr => ∃ j : Nat, j ≤ n1 ∧ i = .int .i64 (j : Int) ∧ s.sess.take j = t.sess.take j ∧ Below u1.heap.size u1 wr) (fun i _ => n1 - (intOf i).toNat)
  case atStart => exact ⟨0, Nat.zero_le _, rfl, rfl, Below.refl _ _⟩
  case round =>
    obtain ⟨j, hj, rfl, hpre, hb⟩ := hrel
    have HP := Lib.hid hpre
    clear hpre
    have hsz := hb.size
    have Y4 := Lib.hid y4
    have Z4 := Lib.hid z4
    replace y4 := (hb.cell (p := ⟨u.heap.size, 4, none⟩) hl0).trans y4
    replace z4 := (hb.cell (p := ⟨u.heap.size + 1, 4, none⟩) hl1).trans z4
    by_cases hlt : j < n1
    · have hlt' : j < m1 := by have := E4.out; omega
      obtain ⟨ad, f, rfl, hab, hf, g0, g1, g2, g3⟩ := rse_get (HR1.out.below hb) hlt
      obtain ⟨ad', f', rfl, hab', hf', q0, q1, q2, q3⟩ := rse_get (HT1.out.below hb) hlt'
      have HA0 := Lib.hid (show (ad.add (j * 4)).block < wr.heap.size by rw [add_block]; omega)
      have HA1 := Lib.hid (show (ad'.add (j * 4)).block < wr.heap.size by rw [add_block]; omega)
      have HB0 := Lib.hid (Nat.lt_of_lt_of_le hl0 hsz)
      have HB1 := Lib.hid (Nat.lt_of_lt_of_le hl1 hsz)
      have HF := Lib.hid hf
      have HF' := Lib.hid hf'
      have hm := guard_se
      obtain ⟨D, hD⟩ : ∃ D, decide (f = f') = D := ⟨_, rfl⟩
      have HD := Lib.hid hD
      clear hf hf' hD
      go_upto_region 6 with fail
      refine wp_region_grew (n := 92) (Say [(58, isv (.pointer (some ⟨u.heap.size, 4, none⟩))), (59, isv (.slice (some ad) n1 c1)), (60, isv (.int .i64 (j : Int))), (61, isv (.pointer (some (ad.add (j * 4))))), (62, isv (.agg #[.int .i64 f.client, .int .i64 f.seq, .int .i64 f.code, .int .i64 f.n])), (63, isv (.pointer (some ⟨u.heap.size + 1, 4, none⟩))), (64, isv (.slice (some ad') m1 d1)), (65, isv (.int .i64 (j : Int))), (66, isv (.pointer (some (ad'.add (j * 4))))), (67, isv (.agg #[.int .i64 f'.client, .int .i64 f'.seq, .int .i64 f'.code, .int .i64 f'.n])), (68, isv (.bool (!D)))]) (by kernel_rfl) (by kernel_rfl) rfl ⟨?_, ?_, ?_, ?_, ?_, ?_, ?_, ?_, ?_, ?_, ?_, trivial⟩ ?_
      · refine owed_val _ rfl rfl (fun _ => rfl) fun fr w hC hK => ?_
        have k2 : slot fr 2 = .pointer (some ⟨u.heap.size, 0, none⟩) := known_out hK 2 (by kernel_rfl)
        clear hK
        unfold slot at k2
        go_simp
      · refine owed_val _ rfl rfl (fun _ => rfl) fun fr w hC hK => ?_
        have k58 : slot fr 58 = .pointer (some ⟨u.heap.size, 4, none⟩) := known_in hK 58 (by kernel_rfl)
        clear hK
        unfold slot at k58
        have x0 := (Below.cell hC (p := ⟨u.heap.size, 4, none⟩) HB0.out).trans y4
        go_simp
      · exact owed_move rfl rfl (.inl rfl) fun fr w _ hK => known_out hK 5 (by kernel_rfl)
      · refine owed_val _ rfl rfl (fun _ => rfl) fun fr w hC hK => ?_
        have k59 : slot fr 59 = .slice (some ad) n1 c1 := known_in hK 59 (by kernel_rfl)
        have k60 : slot fr 60 = .int .i64 (j : Int) := known_in hK 60 (by kernel_rfl)
        clear hK
        unfold slot at k59 k60
        have f2 : ¬ n1 ≤ j := by omega
        go_simp
      · refine owed_val _ rfl rfl (fun _ => rfl) fun fr w hC hK => ?_
        have k61 : slot fr 61 = .pointer (some (ad.add (j * 4))) := known_in hK 61 (by kernel_rfl)
        clear hK
        unfold slot at k61
        have x0 := (Below.cell hC (p := ad.add (j * 4)) HA0.out).trans g0
        have x1 := (Below.cell hC (p := ⟨(ad.add (j * 4)).block, (ad.add (j * 4)).off + 1, none⟩) HA0.out).trans g1
        have x2 := (Below.cell hC (p := ⟨(ad.add (j * 4)).block, (ad.add (j * 4)).off + 2, none⟩) HA0.out).trans g2
        have x3 := (Below.cell hC (p := ⟨(ad.add (j * 4)).block, (ad.add (j * 4)).off + 3, none⟩) HA0.out).trans g3
        go_simp
      · refine owed_val _ rfl rfl (fun _ => rfl) fun fr w hC hK => ?_
        have k3 : slot fr 3 = .pointer (some ⟨u.heap.size + 1, 0, none⟩) := known_out hK 3 (by kernel_rfl)
        clear hK
        unfold slot at k3
        go_simp
      · refine owed_val _ rfl rfl (fun _ => rfl) fun fr w hC hK => ?_
        have k63 : slot fr 63 = .pointer (some ⟨u.heap.size + 1, 4, none⟩) := known_in hK 63 (by kernel_rfl)
        clear hK
        unfold slot at k63
        have x0 := (Below.cell hC (p := ⟨u.heap.size + 1, 4, none⟩) HB1.out).trans z4
        go_simp
      · exact owed_move rfl rfl (.inl rfl) fun fr w _ hK => known_out hK 5 (by kernel_rfl)
      · refine owed_val _ rfl rfl (fun _ => rfl) fun fr w hC hK => ?_
        have k64 : slot fr 64 = .slice (some ad') m1 d1 := known_in hK 64 (by kernel_rfl)
        have k65 : slot fr 65 = .int .i64 (j : Int) := known_in hK 65 (by kernel_rfl)
        clear hK
        unfold slot at k64 k65
        have f2 : ¬ m1 ≤ j := by omega
        go_simp
      · refine owed_val _ rfl rfl (fun _ => rfl) fun fr w hC hK => ?_
        have k66 : slot fr 66 = .pointer (some (ad'.add (j * 4))) := known_in hK 66 (by kernel_rfl)
        clear hK
        unfold slot at k66
        have x0 := (Below.cell hC (p := ad'.add (j * 4)) HA1.out).trans q0
        have x1 := (Below.cell hC (p := ⟨(ad'.add (j * 4)).block, (ad'.add (j * 4)).off + 1, none⟩) HA1.out).trans q1
        have x2 := (Below.cell hC (p := ⟨(ad'.add (j * 4)).block, (ad'.add (j * 4)).off + 2, none⟩) HA1.out).trans q2
        have x3 := (Below.cell hC (p := ⟨(ad'.add (j * 4)).block, (ad'.add (j * 4)).off + 3, none⟩) HA1.out).trans q3
        go_simp
      · refine owed_val _ rfl rfl (fun _ => rfl) fun fr w hC hK => ?_
        have k62 : slot fr 62 = .agg #[.int .i64 f.client, .int .i64 f.seq, .int .i64 f.code, .int .i64 f.n] := known_in hK 62 (by kernel_rfl)
        have k67 : slot fr 67 = .agg #[.int .i64 f'.client, .int .i64 f'.seq, .int .i64 f'.code, .int .i64 f'.n] := known_in hK 67 (by kernel_rfl)
        clear hK
        unfold slot at k62 k67
        go_simp
        exact se_if HD.out w
      intro vs w9 hg9 hgood
      have h6 : vs 68 = .bool (!D) := hgood.2.2.2.2.2.2.2.2.2.2.1
      clear hgood
      have hbw9 := hb.trans (Below.mono hg9 hsz)
      simp only [putsOf]
      rw [h6]
      go_simp
      cases D with
      | true =>
        have HFF := Lib.hid (of_decide_eq_true HD.out)
        go_wp2
        go_roundw
        case rel =>
          refine ⟨j + 1, by omega, by go_num, ?_, hbw9⟩
          rw [List.take_add_one, List.take_add_one, HP.out, HF.out, HF'.out, HFF.out]
        case measure => simp [intOf]; omega
      | false =>
        have HFF := Lib.hid (of_decide_eq_false HD.out)
        obtain rfl : E = false := by rw [← HE.out]; exact decide_eq_false fun h => HFF.out (at_same (congrArg Sta.sess h) HF.out HF'.out)
        go_wp2
        go_ret
        exact ⟨rfl, hbw1.trans (hbw9.mono hbw1.size)⟩
    · obtain rfl : j = n1 := by omega
      have hll : s.sess = t.sess := by
        have h1 := HP.out
        rwa [List.take_of_length_le (by have := HR1.out.1; omega), List.take_of_length_le (by have := HT1.out.1; have := E4.out; omega)] at h1
      have HLL := Lib.hid hll
      clear hll
      go_wp2
      go_loopw [6] (fun i wr => ∃ j : Nat, j ≤ n2 ∧ i = .int .i64 (j : Int) ∧ s.opens.take j = t.opens.take j ∧ Below u1.heap.size u1 wr) (fun i _ => n2 - (intOf i).toNat)
      case atStart => exact ⟨0, Nat.zero_le _, rfl, rfl, hb⟩
      case round =>
        clear hb hsz
        obtain ⟨j2, hj2, rfl, hpre, hb⟩ := hrel
        have HP := Lib.hid hpre
        clear hpre
        have hsz := hb.size
        have Y6 := Lib.hid y6
        have Z6 := Lib.hid z6
        replace y5 := (hb.cell (p := ⟨u.heap.size, 5, none⟩) hl0).trans y5
        replace z5 := (hb.cell (p := ⟨u.heap.size + 1, 5, none⟩) hl1).trans z5
        by_cases hlt2 : j2 < n2
        · have hlt2' : j2 < m2 := by have := E5.out; omega
          obtain ⟨ad, f, rfl, hab, hf, g0, g1⟩ := rop_get (HR2.out.below hb) hlt2
          obtain ⟨ad', f', rfl, hab', hf', q0, q1⟩ := rop_get (HT2.out.below hb) hlt2'
          have HA0 := Lib.hid (show (ad.add (j2 * 2)).block < wr.heap.size by rw [add_block]; omega)
          have HA1 := Lib.hid (show (ad'.add (j2 * 2)).block < wr.heap.size by rw [add_block]; omega)
          have HB0 := Lib.hid (Nat.lt_of_lt_of_le hl0 hsz)
          have HB1 := Lib.hid (Nat.lt_of_lt_of_le hl1 hsz)
          have HF := Lib.hid hf
          have HF' := Lib.hid hf'
          have hm := guard_op
          obtain ⟨D, hD⟩ : ∃ D, decide (f = f') = D := ⟨_, rfl⟩
          have HD := Lib.hid hD
          clear hf hf' hD
          go_upto_region 11 with fail
          refine wp_region_grew (n := 92) (Say [(76, isv (.pointer (some ⟨u.heap.size, 5, none⟩))), (77, isv (.slice (some ad) n2 c2)), (78, isv (.int .i64 (j2 : Int))), (79, isv (.pointer (some (ad.add (j2 * 2))))), (80, isv (.agg #[.int .i64 f.set, .int .i64 f.client])), (81, isv (.pointer (some ⟨u.heap.size + 1, 5, none⟩))), (82, isv (.slice (some ad') m2 d2)), (83, isv (.int .i64 (j2 : Int))), (84, isv (.pointer (some (ad'.add (j2 * 2))))), (85, isv (.agg #[.int .i64 f'.set, .int .i64 f'.client])), (86, isv (.bool (!D)))]) (by kernel_rfl) (by kernel_rfl) rfl ⟨?_, ?_, ?_, ?_, ?_, ?_, ?_, ?_, ?_, ?_, ?_, trivial⟩ ?_
          · refine owed_val _ rfl rfl (fun _ => rfl) fun fr w hC hK => ?_
            have k2 : slot fr 2 = .pointer (some ⟨u.heap.size, 0, none⟩) := known_out hK 2 (by kernel_rfl)
            clear hK
            unfold slot at k2
            go_simp
          · refine owed_val _ rfl rfl (fun _ => rfl) fun fr w hC hK => ?_
            have k76 : slot fr 76 = .pointer (some ⟨u.heap.size, 5, none⟩) := known_in hK 76 (by kernel_rfl)
            clear hK
            unfold slot at k76
            have x0 := (Below.cell hC (p := ⟨u.heap.size, 5, none⟩) HB0.out).trans y5
            go_simp
          · exact owed_move rfl rfl (.inl rfl) fun fr w _ hK => known_out hK 6 (by kernel_rfl)
          · refine owed_val _ rfl rfl (fun _ => rfl) fun fr w hC hK => ?_
            have k77 : slot fr 77 = .slice (some ad) n2 c2 := known_in hK 77 (by kernel_rfl)
            have k78 : slot fr 78 = .int .i64 (j2 : Int) := known_in hK 78 (by kernel_rfl)
            clear hK
            unfold slot at k77 k78
            have f2 : ¬ n2 ≤ j2 := by omega
            go_simp
          · refine owed_val _ rfl rfl (fun _ => rfl) fun fr w hC hK => ?_
            have k79 : slot fr 79 = .pointer (some (ad.add (j2 * 2))) := known_in hK 79 (by kernel_rfl)
            clear hK
            unfold slot at k79
            have x0 := (Below.cell hC (p := ad.add (j2 * 2)) HA0.out).trans g0
            have x1 := (Below.cell hC (p := ⟨(ad.add (j2 * 2)).block, (ad.add (j2 * 2)).off + 1, none⟩) HA0.out).trans g1
            go_simp
          · refine owed_val _ rfl rfl (fun _ => rfl) fun fr w hC hK => ?_
            have k3 : slot fr 3 = .pointer (some ⟨u.heap.size + 1, 0, none⟩) := known_out hK 3 (by kernel_rfl)
            clear hK
            unfold slot at k3
            go_simp
          · refine owed_val _ rfl rfl (fun _ => rfl) fun fr w hC hK => ?_
            have k81 : slot fr 81 = .pointer (some ⟨u.heap.size + 1, 5, none⟩) := known_in hK 81 (by kernel_rfl)
            clear hK
            unfold slot at k81
            have x0 := (Below.cell hC (p := ⟨u.heap.size + 1, 5, none⟩) HB1.out).trans z5
            go_simp
          · exact owed_move rfl rfl (.inl rfl) fun fr w _ hK => known_out hK 6 (by kernel_rfl)
          · refine owed_val _ rfl rfl (fun _ => rfl) fun fr w hC hK => ?_
            have k82 : slot fr 82 = .slice (some ad') m2 d2 := known_in hK 82 (by kernel_rfl)
            have k83 : slot fr 83 = .int .i64 (j2 : Int) := known_in hK 83 (by kernel_rfl)
            clear hK
            unfold slot at k82 k83
            have f2 : ¬ m2 ≤ j2 := by omega
            go_simp
          · refine owed_val _ rfl rfl (fun _ => rfl) fun fr w hC hK => ?_
            have k84 : slot fr 84 = .pointer (some (ad'.add (j2 * 2))) := known_in hK 84 (by kernel_rfl)
            clear hK
            unfold slot at k84
            have x0 := (Below.cell hC (p := ad'.add (j2 * 2)) HA1.out).trans q0
            have x1 := (Below.cell hC (p := ⟨(ad'.add (j2 * 2)).block, (ad'.add (j2 * 2)).off + 1, none⟩) HA1.out).trans q1
            go_simp
          · refine owed_val _ rfl rfl (fun _ => rfl) fun fr w hC hK => ?_
            have k80 : slot fr 80 = .agg #[.int .i64 f.set, .int .i64 f.client] := known_in hK 80 (by kernel_rfl)
            have k85 : slot fr 85 = .agg #[.int .i64 f'.set, .int .i64 f'.client] := known_in hK 85 (by kernel_rfl)
            clear hK
            unfold slot at k80 k85
            go_simp
            exact op_if HD.out w
          intro vs w9 hg9 hgood
          have h6 : vs 86 = .bool (!D) := hgood.2.2.2.2.2.2.2.2.2.2.1
          clear hgood
          have hbw9 := hb.trans (Below.mono hg9 hsz)
          simp only [putsOf]
          rw [h6]
          go_simp
          cases D with
          | true =>
            have HFF := Lib.hid (of_decide_eq_true HD.out)
            go_wp2
            go_roundw
            case rel =>
              refine ⟨j2 + 1, by omega, by go_num, ?_, hbw9⟩
              rw [List.take_add_one, List.take_add_one, HP.out, HF.out, HF'.out, HFF.out]
            case measure => simp [intOf]; omega
          | false =>
            have HFF := Lib.hid (of_decide_eq_false HD.out)
            obtain rfl : E = false := by rw [← HE.out]; exact decide_eq_false fun h => HFF.out (at_same (congrArg Sta.opens h) HF.out HF'.out)
            go_wp2
            go_ret
            exact ⟨rfl, hbw1.trans (hbw9.mono hbw1.size)⟩
        · obtain rfl : j2 = n2 := by omega
          have hll : s.opens = t.opens := by
            have h1 := HP.out
            rwa [List.take_of_length_le (by have := HR2.out.1; omega), List.take_of_length_le (by have := HT2.out.1; have := E5.out; omega)] at h1
          have HLO := Lib.hid hll
          clear hll
          replace y6 := (hb.cell (p := ⟨u.heap.size, 6, none⟩) hl0).trans y6
          replace z6 := (hb.cell (p := ⟨u.heap.size + 1, 6, none⟩) hl1).trans z6
          obtain rfl : E = decide (s.snaps = t.snaps) := by
            rw [← HE.out]
            refine decide_eq_decide.2 ?_
            rw [sta_eq, E0.out, E1.out, E2.out, E3.out, HLL.out, HLO.out]
            simp
          go_wp2_with fail
          refine (sameall_any a3 b3 n3 m3 c3 d3 s.snaps t.snaps S T wr ((HR3.out.below hb).more hsz) ((HT3.out.below hb).more hsz) i3 i3' j3 j3' (fun a ha => (HK.out.snaps a ha).2.2.2) (fun a ha => (HK'.out.snaps a ha).2.2.2)).mono ?_
          rintro _ w9 ⟨rfl, hb9⟩
          go_wp2
          go_ret
          exact ⟨rfl, (hbw1.trans (hb.mono hbw1.size)).trans (hb9.mono (Nat.le_trans hbw1.size hsz))⟩
end Go.Proofs.Ytdkjdiamekfbdaa
