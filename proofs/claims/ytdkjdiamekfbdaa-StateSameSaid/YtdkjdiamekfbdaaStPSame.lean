/-
  The walk of the landed state.Same.
-/
import Derived.Test.YtdkjdiamekfbdaaStPEq
import Derived.Test.YtdkjdiamekfbdaaStPSm
import Derived.Test.YtdkjdiamekfbdaaStCopy
import Derived.Test.YtdkjdiamekfbdaaSkip
namespace Go.Proofs.Ytdkjdiamekfbdaa
open Go.RowKit
open Rf (Snp)
open St (Ses Opn Sta)

theorem nm_if {a b c d a' b' c' d' : Int} {D : Bool} (h : (decide (a = a') && (decide (b = b') && (decide (c = c') && decide (d = d')))) = D) (w : World) : (if a = a' then
      if b = b' then
        if c = c' then
          if d = d' then Result.ok (Next.value (Value.bool true)) w
          else Result.ok (Next.value (Value.bool false)) w
        else Result.ok (Next.value (Value.bool false)) w
      else Result.ok (Next.value (Value.bool false)) w
    else Result.ok (Next.value (Value.bool false)) w) = Result.ok (Next.value (Value.bool D)) w := by
  subst h
  repeat' split
  all_goals simp_all
theorem sta_dec (s t : Sta) : decide (s = t) = ((decide (s.version = t.version) && (decide (s.next = t.next) && (decide (s.keep = t.keep) && decide (s.quota = t.quota)))) && (decide (s.sess = t.sess) && (decide (s.opens = t.opens) && decide (s.snaps = t.snaps)))) := by
  rw [Bool.eq_iff_iff]
  simp only [Bool.and_eq_true, decide_eq_true_eq, sta_eq, and_assoc]

set_option maxHeartbeats 4000000 in
set_option maxRecDepth 100000 in
theorem same_p (s t : Sta) (p q : Pls) (u : World) (h : RdT u u.heap.size s p) (h' : RdT u u.heap.size t q) (hs : Tok s) (ht : Tok t) (_hsm : Small s) (_hsm' : Small t) : Calls Try.prog 11 #[stagg s p, stagg t q] u fun e u' => e = .returned (.bool (decide (s = t))) ∧ Below u.heap.size u u' := by
  obtain ⟨u0, hu0, hk0, hb0, hs0⟩ := box_st u s p 26
  obtain ⟨u1, hu1, hk1, hb1, hs1⟩ := box_st u0 t q 26
  have hs01 : u0.heap.size = u.heap.size + 1 := by rw [hu0]; simp
  have hbw1 : Below u.heap.size u u1 := hb0.trans (hb1.mono (Nat.le_of_lt hs0))
  obtain ⟨y0, y1, y2, y3, y4, y5, y6⟩ := stblk_cells (hk0.below hb1 hs0)
  have hz := stblk_cells hk1
  rw [hs01] at hz
  obtain ⟨z0, z1, z2, z3, z4, z5, z6⟩ := hz
  have hr := (h.below hbw1).more hbw1.size
  have hr' := (h'.below hbw1).more hbw1.size
  have HW := Lib.hid (show u1 = (u.alloc (.cells (stblk s p) 26)).alloc (.cells (stblk t q) 26) by rw [hu1, hu0])
  have HB0 := Lib.hid (show u.heap.size < u1.heap.size from Nat.lt_trans hs0 hs1)
  have HB1 := Lib.hid (show u.heap.size + 1 < u1.heap.size by have := hs1; have := hs0; omega)
  have HE := Lib.hid (sta_dec s t)
  obtain ⟨E, hE⟩ : ∃ E, decide (s = t) = E := ⟨_, rfl⟩
  rw [hE] at HE
  rw [hE]
  obtain ⟨D0, hD0⟩ : ∃ D, (decide (s.version = t.version) && (decide (s.next = t.next) && (decide (s.keep = t.keep) && decide (s.quota = t.quota)))) = D := ⟨_, rfl⟩
  have HD0 := Lib.hid hD0
  obtain ⟨D1, hD1⟩ : ∃ D, decide (s.sess = t.sess) = D := ⟨_, rfl⟩
  obtain ⟨D2, hD2⟩ : ∃ D, decide (s.opens = t.opens) = D := ⟨_, rfl⟩
  obtain ⟨D3, hD3⟩ : ∃ D, decide (s.snaps = t.snaps) = D := ⟨_, rfl⟩
  rw [hD0, hD1, hD2, hD3] at HE
  have HX0 := Lib.hid (fun w : World => numbersOf_c s p w)
  have HX1 := Lib.hid (fun w : World => numbersOf_c t q w)
  have HE1 := Lib.hid (fun (w : World) (hC : Below u1.heap.size u1 w) => (equal_se p.a1 q.a1 p.n1 q.n1 p.c1 q.c1 s.sess t.sess w (by have := hr.k1; omega) ((hr.sess.below hC).more hC.size) ((hr'.sess.below hC).more hC.size)).mono fun e w' hh => (show e = .returned (.bool D1) ∧ Below w.heap.size w w' from ⟨by rw [hh.1, hD1], hh.2⟩))
  have HE2 := Lib.hid (fun (w : World) (hC : Below u1.heap.size u1 w) => (equal_op p.a2 q.a2 p.n2 q.n2 p.c2 q.c2 s.opens t.opens w (by have := hr.k2; omega) ((hr.opens.below hC).more hC.size) ((hr'.opens.below hC).more hC.size)).mono fun e w' hh => (show e = .returned (.bool D2) ∧ Below w.heap.size w w' from ⟨by rw [hh.1, hD2], hh.2⟩))
  have HE3 := Lib.hid (fun (w : World) (hC : Below u1.heap.size u1 w) => (equal_sn p.a3 q.a3 p.n3 q.n3 p.c3 q.c3 s.snaps t.snaps p.S q.S w (by have := hr.k3; omega) ((hr.snaps.below hC).more hC.size) ((hr'.snaps.below hC).more hC.size) (fun a ha => (hs.snaps a ha).2.2.2) (fun a ha => (ht.snaps a ha).2.2.2)).mono fun e w' hh => (show e = .returned (.bool D3) ∧ Below w.heap.size w w' from ⟨by rw [hh.1, hD3], hh.2⟩))
  clear h h' hr hr' hs ht hu0 hu1 hk0 hk1 hb0 hb1 hs0 hs1 hs01 hE hD0 hD1 hD2 hD3
  unfold stagg stblk at *
  unfold nagg at HX0 HX1
  go_enter Try.func11, Try.ntmps11
  go_upto_region 1 with fail
  rw [show (u.alloc (.cells #[.int .i64 s.version, .int .i64 s.next, .int .i64 s.keep, .int .i64 s.quota, .slice p.a1 p.n1 p.c1, .slice p.a2 p.n2 p.c2, .slice p.a3 p.n3 p.c3] 26)).alloc (.cells #[.int .i64 t.version, .int .i64 t.next, .int .i64 t.keep, .int .i64 t.quota, .slice q.a1 q.n1 q.c1, .slice q.a2 q.n2 q.c2, .slice q.a3 q.n3 q.c3] 26) = u1 from HW.out.symm]
  cases D0 with
  | false =>
    obtain rfl : E = false := by rw [HE.out]; rfl
    refine wp_region_grew (n := 31) (Say [(5, isv (.agg #[.int .i64 s.version, .int .i64 s.next, .int .i64 s.keep, .int .i64 s.quota, .slice p.a1 p.n1 p.c1, .slice p.a2 p.n2 p.c2, .slice p.a3 p.n3 p.c3])), (6, isv (.agg #[.int .i64 s.version, .int .i64 s.next, .int .i64 s.keep, .int .i64 s.quota])), (7, isv (.agg #[.int .i64 t.version, .int .i64 t.next, .int .i64 t.keep, .int .i64 t.quota, .slice q.a1 q.n1 q.c1, .slice q.a2 q.n2 q.c2, .slice q.a3 q.n3 q.c3])), (8, isv (.agg #[.int .i64 t.version, .int .i64 t.next, .int .i64 t.keep, .int .i64 t.quota])), (9, isv (.bool false)), (10, isv (.bool false)), (11, isv (undef)), (12, isv (undef)), (13, isv (undef)), (14, isv (undef)), (15, isv (undef)), (16, isv (.bool false)), (17, isv (.bool false)), (18, isv (undef)), (19, isv (undef)), (20, isv (undef)), (21, isv (undef)), (22, isv (undef)), (23, isv (.bool false)), (24, isv (.bool false)), (25, isv (undef)), (26, isv (undef)), (27, isv (undef)), (28, isv (undef)), (29, isv (undef)), (30, isv (.bool false)), (4, isv (.bool false))]) (by kernel_rfl) (by kernel_rfl) rfl ⟨?_, ?_, ?_, ?_, ?_, ?_, ?_, ?_, ?_, ?_, ?_, ?_, ?_, ?_, ?_, ?_, ?_, ?_, ?_, ?_, ?_, ?_, ?_, ?_, ?_, ?_, ?_, trivial⟩ ?_
    · refine owed_val _ rfl rfl (fun _ => rfl) fun fr w hC hK => ?_
      have k2 : slot fr 2 = .pointer (some ⟨u.heap.size, 0, none⟩) := known_out hK 2 (by kernel_rfl)
      clear hK
      unfold slot at k2
      have x0 := (Below.cell hC (p := ⟨u.heap.size, 0, none⟩) HB0.out).trans y0
      have x1 := (Below.cell hC (p := ⟨u.heap.size, 1, none⟩) HB0.out).trans y1
      have x2 := (Below.cell hC (p := ⟨u.heap.size, 2, none⟩) HB0.out).trans y2
      have x3 := (Below.cell hC (p := ⟨u.heap.size, 3, none⟩) HB0.out).trans y3
      have x4 := (Below.cell hC (p := ⟨u.heap.size, 4, none⟩) HB0.out).trans y4
      have x5 := (Below.cell hC (p := ⟨u.heap.size, 5, none⟩) HB0.out).trans y5
      have x6 := (Below.cell hC (p := ⟨u.heap.size, 6, none⟩) HB0.out).trans y6
      go_simp
    · refine owed_plain rfl rfl fun fr w hC hK K hk => ?_
      have k5 : slot fr 5 = .agg #[.int .i64 s.version, .int .i64 s.next, .int .i64 s.keep, .int .i64 s.quota, .slice p.a1 p.n1 p.c1, .slice p.a2 p.n2 p.c2, .slice p.a3 p.n3 p.c3] := known_in hK 5 (by kernel_rfl)
      clear hK
      unfold slot at k5
      go_simp
      refine (HX0.out w).mono ?_
      rintro e w' ⟨rfl, hb1⟩
      exact hk _ _ hb1 rfl
    · refine owed_val _ rfl rfl (fun _ => rfl) fun fr w hC hK => ?_
      have k3 : slot fr 3 = .pointer (some ⟨u.heap.size + 1, 0, none⟩) := known_out hK 3 (by kernel_rfl)
      clear hK
      unfold slot at k3
      have x0 := (Below.cell hC (p := ⟨u.heap.size + 1, 0, none⟩) HB1.out).trans z0
      have x1 := (Below.cell hC (p := ⟨u.heap.size + 1, 1, none⟩) HB1.out).trans z1
      have x2 := (Below.cell hC (p := ⟨u.heap.size + 1, 2, none⟩) HB1.out).trans z2
      have x3 := (Below.cell hC (p := ⟨u.heap.size + 1, 3, none⟩) HB1.out).trans z3
      have x4 := (Below.cell hC (p := ⟨u.heap.size + 1, 4, none⟩) HB1.out).trans z4
      have x5 := (Below.cell hC (p := ⟨u.heap.size + 1, 5, none⟩) HB1.out).trans z5
      have x6 := (Below.cell hC (p := ⟨u.heap.size + 1, 6, none⟩) HB1.out).trans z6
      go_simp
    · refine owed_plain rfl rfl fun fr w hC hK K hk => ?_
      have k7 : slot fr 7 = .agg #[.int .i64 t.version, .int .i64 t.next, .int .i64 t.keep, .int .i64 t.quota, .slice q.a1 q.n1 q.c1, .slice q.a2 q.n2 q.c2, .slice q.a3 q.n3 q.c3] := known_in hK 7 (by kernel_rfl)
      clear hK
      unfold slot at k7
      go_simp
      refine (HX1.out w).mono ?_
      rintro e w' ⟨rfl, hb1⟩
      exact hk _ _ hb1 rfl
    · refine owed_val _ rfl rfl (fun _ => rfl) fun fr w hC hK => ?_
      have k6 : slot fr 6 = .agg #[.int .i64 s.version, .int .i64 s.next, .int .i64 s.keep, .int .i64 s.quota] := known_in hK 6 (by kernel_rfl)
      have k8 : slot fr 8 = .agg #[.int .i64 t.version, .int .i64 t.next, .int .i64 t.keep, .int .i64 t.quota] := known_in hK 8 (by kernel_rfl)
      clear hK
      unfold slot at k6 k8
      go_simp
      first
        | exact nm_if HD0.out w
        | (intro a b c d; have h := HD0.out; simp [a, b, c, d] at h; done)
        | (have h := HD0.out; simp only [Bool.and_eq_true, decide_eq_true_eq] at h; simp [h])
    · exact owed_move rfl rfl (.inl rfl) fun fr w _ hK => known_in hK 9 (by kernel_rfl)
    · exact owed_skipped rfl rfl rfl (by kernel_rfl) (fun _ _ h => h) (fun _ => rfl)
    · exact owed_skipped rfl rfl rfl (by kernel_rfl) (fun _ _ h => h) (fun _ => rfl)
    · exact owed_skipped rfl rfl rfl (by kernel_rfl) (fun _ _ h => h) (fun _ => rfl)
    · exact owed_skipped rfl rfl rfl (by kernel_rfl) (fun _ _ h => h) (fun _ => rfl)
    · exact owed_skipped rfl rfl rfl (by kernel_rfl) (fun _ _ h => h) (fun _ => rfl)
    · refine owed_val _ rfl rfl (fun _ => rfl) fun fr w hC hK => ?_
      have k10 : slot fr 10 = .bool false := known_in hK 10 (by kernel_rfl)
      have k15 : slot fr 15 = undef := known_in hK 15 (by kernel_rfl)
      clear hK
      unfold slot at k10 k15
      go_simp
    · exact owed_move rfl rfl (.inl rfl) fun fr w _ hK => known_in hK 16 (by kernel_rfl)
    · exact owed_skipped rfl rfl rfl (by kernel_rfl) (fun _ _ h => h) (fun _ => rfl)
    · exact owed_skipped rfl rfl rfl (by kernel_rfl) (fun _ _ h => h) (fun _ => rfl)
    · exact owed_skipped rfl rfl rfl (by kernel_rfl) (fun _ _ h => h) (fun _ => rfl)
    · exact owed_skipped rfl rfl rfl (by kernel_rfl) (fun _ _ h => h) (fun _ => rfl)
    · exact owed_skipped rfl rfl rfl (by kernel_rfl) (fun _ _ h => h) (fun _ => rfl)
    · refine owed_val _ rfl rfl (fun _ => rfl) fun fr w hC hK => ?_
      have k17 : slot fr 17 = .bool false := known_in hK 17 (by kernel_rfl)
      have k22 : slot fr 22 = undef := known_in hK 22 (by kernel_rfl)
      clear hK
      unfold slot at k17 k22
      go_simp
    · exact owed_move rfl rfl (.inl rfl) fun fr w _ hK => known_in hK 23 (by kernel_rfl)
    · exact owed_skipped rfl rfl rfl (by kernel_rfl) (fun _ _ h => h) (fun _ => rfl)
    · exact owed_skipped rfl rfl rfl (by kernel_rfl) (fun _ _ h => h) (fun _ => rfl)
    · exact owed_skipped rfl rfl rfl (by kernel_rfl) (fun _ _ h => h) (fun _ => rfl)
    · exact owed_skipped rfl rfl rfl (by kernel_rfl) (fun _ _ h => h) (fun _ => rfl)
    · exact owed_skipped rfl rfl rfl (by kernel_rfl) (fun _ _ h => h) (fun _ => rfl)
    · refine owed_val _ rfl rfl (fun _ => rfl) fun fr w hC hK => ?_
      have k24 : slot fr 24 = .bool false := known_in hK 24 (by kernel_rfl)
      have k29 : slot fr 29 = undef := known_in hK 29 (by kernel_rfl)
      clear hK
      unfold slot at k24 k29
      go_simp
    · exact owed_move rfl rfl (.inr rfl) fun fr w _ hK => known_in hK 30 (by kernel_rfl)
    intro vs w' hg hgood
    have h4 : vs 4 = .bool false := hgood.2.2.2.2.2.2.2.2.2.2.2.2.2.2.2.2.2.2.2.2.2.2.2.2.2.2.1
    clear hgood
    simp only [putsOf]
    rw [h4]
    go_simp
    go_wp2
    go_ret
    exact ⟨rfl, hbw1.trans (hg.mono hbw1.size)⟩
  | true =>
    cases D1 with
    | false =>
      obtain rfl : E = false := by rw [HE.out]; rfl
      refine wp_region_grew (n := 31) (Say [(5, isv (.agg #[.int .i64 s.version, .int .i64 s.next, .int .i64 s.keep, .int .i64 s.quota, .slice p.a1 p.n1 p.c1, .slice p.a2 p.n2 p.c2, .slice p.a3 p.n3 p.c3])), (6, isv (.agg #[.int .i64 s.version, .int .i64 s.next, .int .i64 s.keep, .int .i64 s.quota])), (7, isv (.agg #[.int .i64 t.version, .int .i64 t.next, .int .i64 t.keep, .int .i64 t.quota, .slice q.a1 q.n1 q.c1, .slice q.a2 q.n2 q.c2, .slice q.a3 q.n3 q.c3])), (8, isv (.agg #[.int .i64 t.version, .int .i64 t.next, .int .i64 t.keep, .int .i64 t.quota])), (9, isv (.bool true)), (10, isv (.bool true)), (11, isv (.pointer (some ⟨u.heap.size, 4, none⟩))), (12, isv (.slice p.a1 p.n1 p.c1)), (13, isv (.pointer (some ⟨u.heap.size + 1, 4, none⟩))), (14, isv (.slice q.a1 q.n1 q.c1)), (15, isv (.bool false)), (16, isv (.bool false)), (17, isv (.bool false)), (18, isv (undef)), (19, isv (undef)), (20, isv (undef)), (21, isv (undef)), (22, isv (undef)), (23, isv (.bool false)), (24, isv (.bool false)), (25, isv (undef)), (26, isv (undef)), (27, isv (undef)), (28, isv (undef)), (29, isv (undef)), (30, isv (.bool false)), (4, isv (.bool false))]) (by kernel_rfl) (by kernel_rfl) rfl ⟨?_, ?_, ?_, ?_, ?_, ?_, ?_, ?_, ?_, ?_, ?_, ?_, ?_, ?_, ?_, ?_, ?_, ?_, ?_, ?_, ?_, ?_, ?_, ?_, ?_, ?_, ?_, trivial⟩ ?_
      · refine owed_val _ rfl rfl (fun _ => rfl) fun fr w hC hK => ?_
        have k2 : slot fr 2 = .pointer (some ⟨u.heap.size, 0, none⟩) := known_out hK 2 (by kernel_rfl)
        clear hK
        unfold slot at k2
        have x0 := (Below.cell hC (p := ⟨u.heap.size, 0, none⟩) HB0.out).trans y0
        have x1 := (Below.cell hC (p := ⟨u.heap.size, 1, none⟩) HB0.out).trans y1
        have x2 := (Below.cell hC (p := ⟨u.heap.size, 2, none⟩) HB0.out).trans y2
        have x3 := (Below.cell hC (p := ⟨u.heap.size, 3, none⟩) HB0.out).trans y3
        have x4 := (Below.cell hC (p := ⟨u.heap.size, 4, none⟩) HB0.out).trans y4
        have x5 := (Below.cell hC (p := ⟨u.heap.size, 5, none⟩) HB0.out).trans y5
        have x6 := (Below.cell hC (p := ⟨u.heap.size, 6, none⟩) HB0.out).trans y6
        go_simp
      · refine owed_plain rfl rfl fun fr w hC hK K hk => ?_
        have k5 : slot fr 5 = .agg #[.int .i64 s.version, .int .i64 s.next, .int .i64 s.keep, .int .i64 s.quota, .slice p.a1 p.n1 p.c1, .slice p.a2 p.n2 p.c2, .slice p.a3 p.n3 p.c3] := known_in hK 5 (by kernel_rfl)
        clear hK
        unfold slot at k5
        go_simp
        refine (HX0.out w).mono ?_
        rintro e w' ⟨rfl, hb1⟩
        exact hk _ _ hb1 rfl
      · refine owed_val _ rfl rfl (fun _ => rfl) fun fr w hC hK => ?_
        have k3 : slot fr 3 = .pointer (some ⟨u.heap.size + 1, 0, none⟩) := known_out hK 3 (by kernel_rfl)
        clear hK
        unfold slot at k3
        have x0 := (Below.cell hC (p := ⟨u.heap.size + 1, 0, none⟩) HB1.out).trans z0
        have x1 := (Below.cell hC (p := ⟨u.heap.size + 1, 1, none⟩) HB1.out).trans z1
        have x2 := (Below.cell hC (p := ⟨u.heap.size + 1, 2, none⟩) HB1.out).trans z2
        have x3 := (Below.cell hC (p := ⟨u.heap.size + 1, 3, none⟩) HB1.out).trans z3
        have x4 := (Below.cell hC (p := ⟨u.heap.size + 1, 4, none⟩) HB1.out).trans z4
        have x5 := (Below.cell hC (p := ⟨u.heap.size + 1, 5, none⟩) HB1.out).trans z5
        have x6 := (Below.cell hC (p := ⟨u.heap.size + 1, 6, none⟩) HB1.out).trans z6
        go_simp
      · refine owed_plain rfl rfl fun fr w hC hK K hk => ?_
        have k7 : slot fr 7 = .agg #[.int .i64 t.version, .int .i64 t.next, .int .i64 t.keep, .int .i64 t.quota, .slice q.a1 q.n1 q.c1, .slice q.a2 q.n2 q.c2, .slice q.a3 q.n3 q.c3] := known_in hK 7 (by kernel_rfl)
        clear hK
        unfold slot at k7
        go_simp
        refine (HX1.out w).mono ?_
        rintro e w' ⟨rfl, hb1⟩
        exact hk _ _ hb1 rfl
      · refine owed_val _ rfl rfl (fun _ => rfl) fun fr w hC hK => ?_
        have k6 : slot fr 6 = .agg #[.int .i64 s.version, .int .i64 s.next, .int .i64 s.keep, .int .i64 s.quota] := known_in hK 6 (by kernel_rfl)
        have k8 : slot fr 8 = .agg #[.int .i64 t.version, .int .i64 t.next, .int .i64 t.keep, .int .i64 t.quota] := known_in hK 8 (by kernel_rfl)
        clear hK
        unfold slot at k6 k8
        go_simp
        first
          | exact nm_if HD0.out w
          | (intro a b c d; have h := HD0.out; simp [a, b, c, d] at h; done)
          | (have h := HD0.out; simp only [Bool.and_eq_true, decide_eq_true_eq] at h; simp [h])
      · exact owed_move rfl rfl (.inl rfl) fun fr w _ hK => known_in hK 9 (by kernel_rfl)
      · refine owed_wval _ rfl rfl rfl (by kernel_rfl) (fun _ _ h => h) (fun _ => rfl) fun fr w hC hK => ?_
        have k2 : slot fr 2 = .pointer (some ⟨u.heap.size, 0, none⟩) := known_out hK 2 (by kernel_rfl)
        clear hK
        unfold slot at k2
        go_simp
      · refine owed_wval _ rfl rfl rfl (by kernel_rfl) (fun _ _ h => h) (fun _ => rfl) fun fr w hC hK => ?_
        have k11 : slot fr 11 = .pointer (some ⟨u.heap.size, 4, none⟩) := known_in hK 11 (by kernel_rfl)
        clear hK
        unfold slot at k11
        have x4 := (Below.cell hC (p := ⟨u.heap.size, 4, none⟩) HB0.out).trans y4
        go_simp
      · refine owed_wval _ rfl rfl rfl (by kernel_rfl) (fun _ _ h => h) (fun _ => rfl) fun fr w hC hK => ?_
        have k3 : slot fr 3 = .pointer (some ⟨u.heap.size + 1, 0, none⟩) := known_out hK 3 (by kernel_rfl)
        clear hK
        unfold slot at k3
        go_simp
      · refine owed_wval _ rfl rfl rfl (by kernel_rfl) (fun _ _ h => h) (fun _ => rfl) fun fr w hC hK => ?_
        have k13 : slot fr 13 = .pointer (some ⟨u.heap.size + 1, 4, none⟩) := known_in hK 13 (by kernel_rfl)
        clear hK
        unfold slot at k13
        have x4 := (Below.cell hC (p := ⟨u.heap.size + 1, 4, none⟩) HB1.out).trans z4
        go_simp
      · refine owed_wanted rfl rfl rfl (by kernel_rfl) (fun _ _ h => h) fun fr w hC hK K hk => ?_
        have k12 : slot fr 12 = .slice p.a1 p.n1 p.c1 := known_in hK 12 (by kernel_rfl)
        have k14 : slot fr 14 = .slice q.a1 q.n1 q.c1 := known_in hK 14 (by kernel_rfl)
        clear hK
        unfold slot at k12 k14
        go_simp
        refine (HE1.out w hC).mono ?_
        rintro e w' ⟨rfl, hb1⟩
        exact hk _ _ hb1 rfl
      · refine owed_val _ rfl rfl (fun _ => rfl) fun fr w hC hK => ?_
        have k10 : slot fr 10 = .bool true := known_in hK 10 (by kernel_rfl)
        have k15 : slot fr 15 = .bool false := known_in hK 15 (by kernel_rfl)
        clear hK
        unfold slot at k10 k15
        go_simp
      · exact owed_move rfl rfl (.inl rfl) fun fr w _ hK => known_in hK 16 (by kernel_rfl)
      · exact owed_skipped rfl rfl rfl (by kernel_rfl) (fun _ _ h => h) (fun _ => rfl)
      · exact owed_skipped rfl rfl rfl (by kernel_rfl) (fun _ _ h => h) (fun _ => rfl)
      · exact owed_skipped rfl rfl rfl (by kernel_rfl) (fun _ _ h => h) (fun _ => rfl)
      · exact owed_skipped rfl rfl rfl (by kernel_rfl) (fun _ _ h => h) (fun _ => rfl)
      · exact owed_skipped rfl rfl rfl (by kernel_rfl) (fun _ _ h => h) (fun _ => rfl)
      · refine owed_val _ rfl rfl (fun _ => rfl) fun fr w hC hK => ?_
        have k17 : slot fr 17 = .bool false := known_in hK 17 (by kernel_rfl)
        have k22 : slot fr 22 = undef := known_in hK 22 (by kernel_rfl)
        clear hK
        unfold slot at k17 k22
        go_simp
      · exact owed_move rfl rfl (.inl rfl) fun fr w _ hK => known_in hK 23 (by kernel_rfl)
      · exact owed_skipped rfl rfl rfl (by kernel_rfl) (fun _ _ h => h) (fun _ => rfl)
      · exact owed_skipped rfl rfl rfl (by kernel_rfl) (fun _ _ h => h) (fun _ => rfl)
      · exact owed_skipped rfl rfl rfl (by kernel_rfl) (fun _ _ h => h) (fun _ => rfl)
      · exact owed_skipped rfl rfl rfl (by kernel_rfl) (fun _ _ h => h) (fun _ => rfl)
      · exact owed_skipped rfl rfl rfl (by kernel_rfl) (fun _ _ h => h) (fun _ => rfl)
      · refine owed_val _ rfl rfl (fun _ => rfl) fun fr w hC hK => ?_
        have k24 : slot fr 24 = .bool false := known_in hK 24 (by kernel_rfl)
        have k29 : slot fr 29 = undef := known_in hK 29 (by kernel_rfl)
        clear hK
        unfold slot at k24 k29
        go_simp
      · exact owed_move rfl rfl (.inr rfl) fun fr w _ hK => known_in hK 30 (by kernel_rfl)
      intro vs w' hg hgood
      have h4 : vs 4 = .bool false := hgood.2.2.2.2.2.2.2.2.2.2.2.2.2.2.2.2.2.2.2.2.2.2.2.2.2.2.1
      clear hgood
      simp only [putsOf]
      rw [h4]
      go_simp
      go_wp2
      go_ret
      exact ⟨rfl, hbw1.trans (hg.mono hbw1.size)⟩
    | true =>
      cases D2 with
      | false =>
        obtain rfl : E = false := by rw [HE.out]; rfl
        refine wp_region_grew (n := 31) (Say [(5, isv (.agg #[.int .i64 s.version, .int .i64 s.next, .int .i64 s.keep, .int .i64 s.quota, .slice p.a1 p.n1 p.c1, .slice p.a2 p.n2 p.c2, .slice p.a3 p.n3 p.c3])), (6, isv (.agg #[.int .i64 s.version, .int .i64 s.next, .int .i64 s.keep, .int .i64 s.quota])), (7, isv (.agg #[.int .i64 t.version, .int .i64 t.next, .int .i64 t.keep, .int .i64 t.quota, .slice q.a1 q.n1 q.c1, .slice q.a2 q.n2 q.c2, .slice q.a3 q.n3 q.c3])), (8, isv (.agg #[.int .i64 t.version, .int .i64 t.next, .int .i64 t.keep, .int .i64 t.quota])), (9, isv (.bool true)), (10, isv (.bool true)), (11, isv (.pointer (some ⟨u.heap.size, 4, none⟩))), (12, isv (.slice p.a1 p.n1 p.c1)), (13, isv (.pointer (some ⟨u.heap.size + 1, 4, none⟩))), (14, isv (.slice q.a1 q.n1 q.c1)), (15, isv (.bool true)), (16, isv (.bool true)), (17, isv (.bool true)), (18, isv (.pointer (some ⟨u.heap.size, 5, none⟩))), (19, isv (.slice p.a2 p.n2 p.c2)), (20, isv (.pointer (some ⟨u.heap.size + 1, 5, none⟩))), (21, isv (.slice q.a2 q.n2 q.c2)), (22, isv (.bool false)), (23, isv (.bool false)), (24, isv (.bool false)), (25, isv (undef)), (26, isv (undef)), (27, isv (undef)), (28, isv (undef)), (29, isv (undef)), (30, isv (.bool false)), (4, isv (.bool false))]) (by kernel_rfl) (by kernel_rfl) rfl ⟨?_, ?_, ?_, ?_, ?_, ?_, ?_, ?_, ?_, ?_, ?_, ?_, ?_, ?_, ?_, ?_, ?_, ?_, ?_, ?_, ?_, ?_, ?_, ?_, ?_, ?_, ?_, trivial⟩ ?_
        · refine owed_val _ rfl rfl (fun _ => rfl) fun fr w hC hK => ?_
          have k2 : slot fr 2 = .pointer (some ⟨u.heap.size, 0, none⟩) := known_out hK 2 (by kernel_rfl)
          clear hK
          unfold slot at k2
          have x0 := (Below.cell hC (p := ⟨u.heap.size, 0, none⟩) HB0.out).trans y0
          have x1 := (Below.cell hC (p := ⟨u.heap.size, 1, none⟩) HB0.out).trans y1
          have x2 := (Below.cell hC (p := ⟨u.heap.size, 2, none⟩) HB0.out).trans y2
          have x3 := (Below.cell hC (p := ⟨u.heap.size, 3, none⟩) HB0.out).trans y3
          have x4 := (Below.cell hC (p := ⟨u.heap.size, 4, none⟩) HB0.out).trans y4
          have x5 := (Below.cell hC (p := ⟨u.heap.size, 5, none⟩) HB0.out).trans y5
          have x6 := (Below.cell hC (p := ⟨u.heap.size, 6, none⟩) HB0.out).trans y6
          go_simp
        · refine owed_plain rfl rfl fun fr w hC hK K hk => ?_
          have k5 : slot fr 5 = .agg #[.int .i64 s.version, .int .i64 s.next, .int .i64 s.keep, .int .i64 s.quota, .slice p.a1 p.n1 p.c1, .slice p.a2 p.n2 p.c2, .slice p.a3 p.n3 p.c3] := known_in hK 5 (by kernel_rfl)
          clear hK
          unfold slot at k5
          go_simp
          refine (HX0.out w).mono ?_
          rintro e w' ⟨rfl, hb1⟩
          exact hk _ _ hb1 rfl
        · refine owed_val _ rfl rfl (fun _ => rfl) fun fr w hC hK => ?_
          have k3 : slot fr 3 = .pointer (some ⟨u.heap.size + 1, 0, none⟩) := known_out hK 3 (by kernel_rfl)
          clear hK
          unfold slot at k3
          have x0 := (Below.cell hC (p := ⟨u.heap.size + 1, 0, none⟩) HB1.out).trans z0
          have x1 := (Below.cell hC (p := ⟨u.heap.size + 1, 1, none⟩) HB1.out).trans z1
          have x2 := (Below.cell hC (p := ⟨u.heap.size + 1, 2, none⟩) HB1.out).trans z2
          have x3 := (Below.cell hC (p := ⟨u.heap.size + 1, 3, none⟩) HB1.out).trans z3
          have x4 := (Below.cell hC (p := ⟨u.heap.size + 1, 4, none⟩) HB1.out).trans z4
          have x5 := (Below.cell hC (p := ⟨u.heap.size + 1, 5, none⟩) HB1.out).trans z5
          have x6 := (Below.cell hC (p := ⟨u.heap.size + 1, 6, none⟩) HB1.out).trans z6
          go_simp
        · refine owed_plain rfl rfl fun fr w hC hK K hk => ?_
          have k7 : slot fr 7 = .agg #[.int .i64 t.version, .int .i64 t.next, .int .i64 t.keep, .int .i64 t.quota, .slice q.a1 q.n1 q.c1, .slice q.a2 q.n2 q.c2, .slice q.a3 q.n3 q.c3] := known_in hK 7 (by kernel_rfl)
          clear hK
          unfold slot at k7
          go_simp
          refine (HX1.out w).mono ?_
          rintro e w' ⟨rfl, hb1⟩
          exact hk _ _ hb1 rfl
        · refine owed_val _ rfl rfl (fun _ => rfl) fun fr w hC hK => ?_
          have k6 : slot fr 6 = .agg #[.int .i64 s.version, .int .i64 s.next, .int .i64 s.keep, .int .i64 s.quota] := known_in hK 6 (by kernel_rfl)
          have k8 : slot fr 8 = .agg #[.int .i64 t.version, .int .i64 t.next, .int .i64 t.keep, .int .i64 t.quota] := known_in hK 8 (by kernel_rfl)
          clear hK
          unfold slot at k6 k8
          go_simp
          first
            | exact nm_if HD0.out w
            | (intro a b c d; have h := HD0.out; simp [a, b, c, d] at h; done)
            | (have h := HD0.out; simp only [Bool.and_eq_true, decide_eq_true_eq] at h; simp [h])
        · exact owed_move rfl rfl (.inl rfl) fun fr w _ hK => known_in hK 9 (by kernel_rfl)
        · refine owed_wval _ rfl rfl rfl (by kernel_rfl) (fun _ _ h => h) (fun _ => rfl) fun fr w hC hK => ?_
          have k2 : slot fr 2 = .pointer (some ⟨u.heap.size, 0, none⟩) := known_out hK 2 (by kernel_rfl)
          clear hK
          unfold slot at k2
          go_simp
        · refine owed_wval _ rfl rfl rfl (by kernel_rfl) (fun _ _ h => h) (fun _ => rfl) fun fr w hC hK => ?_
          have k11 : slot fr 11 = .pointer (some ⟨u.heap.size, 4, none⟩) := known_in hK 11 (by kernel_rfl)
          clear hK
          unfold slot at k11
          have x4 := (Below.cell hC (p := ⟨u.heap.size, 4, none⟩) HB0.out).trans y4
          go_simp
        · refine owed_wval _ rfl rfl rfl (by kernel_rfl) (fun _ _ h => h) (fun _ => rfl) fun fr w hC hK => ?_
          have k3 : slot fr 3 = .pointer (some ⟨u.heap.size + 1, 0, none⟩) := known_out hK 3 (by kernel_rfl)
          clear hK
          unfold slot at k3
          go_simp
        · refine owed_wval _ rfl rfl rfl (by kernel_rfl) (fun _ _ h => h) (fun _ => rfl) fun fr w hC hK => ?_
          have k13 : slot fr 13 = .pointer (some ⟨u.heap.size + 1, 4, none⟩) := known_in hK 13 (by kernel_rfl)
          clear hK
          unfold slot at k13
          have x4 := (Below.cell hC (p := ⟨u.heap.size + 1, 4, none⟩) HB1.out).trans z4
          go_simp
        · refine owed_wanted rfl rfl rfl (by kernel_rfl) (fun _ _ h => h) fun fr w hC hK K hk => ?_
          have k12 : slot fr 12 = .slice p.a1 p.n1 p.c1 := known_in hK 12 (by kernel_rfl)
          have k14 : slot fr 14 = .slice q.a1 q.n1 q.c1 := known_in hK 14 (by kernel_rfl)
          clear hK
          unfold slot at k12 k14
          go_simp
          refine (HE1.out w hC).mono ?_
          rintro e w' ⟨rfl, hb1⟩
          exact hk _ _ hb1 rfl
        · refine owed_val _ rfl rfl (fun _ => rfl) fun fr w hC hK => ?_
          have k10 : slot fr 10 = .bool true := known_in hK 10 (by kernel_rfl)
          have k15 : slot fr 15 = .bool true := known_in hK 15 (by kernel_rfl)
          clear hK
          unfold slot at k10 k15
          go_simp
        · exact owed_move rfl rfl (.inl rfl) fun fr w _ hK => known_in hK 16 (by kernel_rfl)
        · refine owed_wval _ rfl rfl rfl (by kernel_rfl) (fun _ _ h => h) (fun _ => rfl) fun fr w hC hK => ?_
          have k2 : slot fr 2 = .pointer (some ⟨u.heap.size, 0, none⟩) := known_out hK 2 (by kernel_rfl)
          clear hK
          unfold slot at k2
          go_simp
        · refine owed_wval _ rfl rfl rfl (by kernel_rfl) (fun _ _ h => h) (fun _ => rfl) fun fr w hC hK => ?_
          have k18 : slot fr 18 = .pointer (some ⟨u.heap.size, 5, none⟩) := known_in hK 18 (by kernel_rfl)
          clear hK
          unfold slot at k18
          have x5 := (Below.cell hC (p := ⟨u.heap.size, 5, none⟩) HB0.out).trans y5
          go_simp
        · refine owed_wval _ rfl rfl rfl (by kernel_rfl) (fun _ _ h => h) (fun _ => rfl) fun fr w hC hK => ?_
          have k3 : slot fr 3 = .pointer (some ⟨u.heap.size + 1, 0, none⟩) := known_out hK 3 (by kernel_rfl)
          clear hK
          unfold slot at k3
          go_simp
        · refine owed_wval _ rfl rfl rfl (by kernel_rfl) (fun _ _ h => h) (fun _ => rfl) fun fr w hC hK => ?_
          have k20 : slot fr 20 = .pointer (some ⟨u.heap.size + 1, 5, none⟩) := known_in hK 20 (by kernel_rfl)
          clear hK
          unfold slot at k20
          have x5 := (Below.cell hC (p := ⟨u.heap.size + 1, 5, none⟩) HB1.out).trans z5
          go_simp
        · refine owed_wanted rfl rfl rfl (by kernel_rfl) (fun _ _ h => h) fun fr w hC hK K hk => ?_
          have k19 : slot fr 19 = .slice p.a2 p.n2 p.c2 := known_in hK 19 (by kernel_rfl)
          have k21 : slot fr 21 = .slice q.a2 q.n2 q.c2 := known_in hK 21 (by kernel_rfl)
          clear hK
          unfold slot at k19 k21
          go_simp
          refine (HE2.out w hC).mono ?_
          rintro e w' ⟨rfl, hb1⟩
          exact hk _ _ hb1 rfl
        · refine owed_val _ rfl rfl (fun _ => rfl) fun fr w hC hK => ?_
          have k17 : slot fr 17 = .bool true := known_in hK 17 (by kernel_rfl)
          have k22 : slot fr 22 = .bool false := known_in hK 22 (by kernel_rfl)
          clear hK
          unfold slot at k17 k22
          go_simp
        · exact owed_move rfl rfl (.inl rfl) fun fr w _ hK => known_in hK 23 (by kernel_rfl)
        · exact owed_skipped rfl rfl rfl (by kernel_rfl) (fun _ _ h => h) (fun _ => rfl)
        · exact owed_skipped rfl rfl rfl (by kernel_rfl) (fun _ _ h => h) (fun _ => rfl)
        · exact owed_skipped rfl rfl rfl (by kernel_rfl) (fun _ _ h => h) (fun _ => rfl)
        · exact owed_skipped rfl rfl rfl (by kernel_rfl) (fun _ _ h => h) (fun _ => rfl)
        · exact owed_skipped rfl rfl rfl (by kernel_rfl) (fun _ _ h => h) (fun _ => rfl)
        · refine owed_val _ rfl rfl (fun _ => rfl) fun fr w hC hK => ?_
          have k24 : slot fr 24 = .bool false := known_in hK 24 (by kernel_rfl)
          have k29 : slot fr 29 = undef := known_in hK 29 (by kernel_rfl)
          clear hK
          unfold slot at k24 k29
          go_simp
        · exact owed_move rfl rfl (.inr rfl) fun fr w _ hK => known_in hK 30 (by kernel_rfl)
        intro vs w' hg hgood
        have h4 : vs 4 = .bool false := hgood.2.2.2.2.2.2.2.2.2.2.2.2.2.2.2.2.2.2.2.2.2.2.2.2.2.2.1
        clear hgood
        simp only [putsOf]
        rw [h4]
        go_simp
        go_wp2
        go_ret
        exact ⟨rfl, hbw1.trans (hg.mono hbw1.size)⟩
      | true =>
        obtain rfl : E = D3 := by rw [HE.out]; rfl
        refine wp_region_grew (n := 31) (Say [(5, isv (.agg #[.int .i64 s.version, .int .i64 s.next, .int .i64 s.keep, .int .i64 s.quota, .slice p.a1 p.n1 p.c1, .slice p.a2 p.n2 p.c2, .slice p.a3 p.n3 p.c3])), (6, isv (.agg #[.int .i64 s.version, .int .i64 s.next, .int .i64 s.keep, .int .i64 s.quota])), (7, isv (.agg #[.int .i64 t.version, .int .i64 t.next, .int .i64 t.keep, .int .i64 t.quota, .slice q.a1 q.n1 q.c1, .slice q.a2 q.n2 q.c2, .slice q.a3 q.n3 q.c3])), (8, isv (.agg #[.int .i64 t.version, .int .i64 t.next, .int .i64 t.keep, .int .i64 t.quota])), (9, isv (.bool true)), (10, isv (.bool true)), (11, isv (.pointer (some ⟨u.heap.size, 4, none⟩))), (12, isv (.slice p.a1 p.n1 p.c1)), (13, isv (.pointer (some ⟨u.heap.size + 1, 4, none⟩))), (14, isv (.slice q.a1 q.n1 q.c1)), (15, isv (.bool true)), (16, isv (.bool true)), (17, isv (.bool true)), (18, isv (.pointer (some ⟨u.heap.size, 5, none⟩))), (19, isv (.slice p.a2 p.n2 p.c2)), (20, isv (.pointer (some ⟨u.heap.size + 1, 5, none⟩))), (21, isv (.slice q.a2 q.n2 q.c2)), (22, isv (.bool true)), (23, isv (.bool true)), (24, isv (.bool true)), (25, isv (.pointer (some ⟨u.heap.size, 6, none⟩))), (26, isv (.slice p.a3 p.n3 p.c3)), (27, isv (.pointer (some ⟨u.heap.size + 1, 6, none⟩))), (28, isv (.slice q.a3 q.n3 q.c3)), (29, isv (.bool E)), (30, isv (.bool E)), (4, isv (.bool E))]) (by kernel_rfl) (by kernel_rfl) rfl ⟨?_, ?_, ?_, ?_, ?_, ?_, ?_, ?_, ?_, ?_, ?_, ?_, ?_, ?_, ?_, ?_, ?_, ?_, ?_, ?_, ?_, ?_, ?_, ?_, ?_, ?_, ?_, trivial⟩ ?_
        · refine owed_val _ rfl rfl (fun _ => rfl) fun fr w hC hK => ?_
          have k2 : slot fr 2 = .pointer (some ⟨u.heap.size, 0, none⟩) := known_out hK 2 (by kernel_rfl)
          clear hK
          unfold slot at k2
          have x0 := (Below.cell hC (p := ⟨u.heap.size, 0, none⟩) HB0.out).trans y0
          have x1 := (Below.cell hC (p := ⟨u.heap.size, 1, none⟩) HB0.out).trans y1
          have x2 := (Below.cell hC (p := ⟨u.heap.size, 2, none⟩) HB0.out).trans y2
          have x3 := (Below.cell hC (p := ⟨u.heap.size, 3, none⟩) HB0.out).trans y3
          have x4 := (Below.cell hC (p := ⟨u.heap.size, 4, none⟩) HB0.out).trans y4
          have x5 := (Below.cell hC (p := ⟨u.heap.size, 5, none⟩) HB0.out).trans y5
          have x6 := (Below.cell hC (p := ⟨u.heap.size, 6, none⟩) HB0.out).trans y6
          go_simp
        · refine owed_plain rfl rfl fun fr w hC hK K hk => ?_
          have k5 : slot fr 5 = .agg #[.int .i64 s.version, .int .i64 s.next, .int .i64 s.keep, .int .i64 s.quota, .slice p.a1 p.n1 p.c1, .slice p.a2 p.n2 p.c2, .slice p.a3 p.n3 p.c3] := known_in hK 5 (by kernel_rfl)
          clear hK
          unfold slot at k5
          go_simp
          refine (HX0.out w).mono ?_
          rintro e w' ⟨rfl, hb1⟩
          exact hk _ _ hb1 rfl
        · refine owed_val _ rfl rfl (fun _ => rfl) fun fr w hC hK => ?_
          have k3 : slot fr 3 = .pointer (some ⟨u.heap.size + 1, 0, none⟩) := known_out hK 3 (by kernel_rfl)
          clear hK
          unfold slot at k3
          have x0 := (Below.cell hC (p := ⟨u.heap.size + 1, 0, none⟩) HB1.out).trans z0
          have x1 := (Below.cell hC (p := ⟨u.heap.size + 1, 1, none⟩) HB1.out).trans z1
          have x2 := (Below.cell hC (p := ⟨u.heap.size + 1, 2, none⟩) HB1.out).trans z2
          have x3 := (Below.cell hC (p := ⟨u.heap.size + 1, 3, none⟩) HB1.out).trans z3
          have x4 := (Below.cell hC (p := ⟨u.heap.size + 1, 4, none⟩) HB1.out).trans z4
          have x5 := (Below.cell hC (p := ⟨u.heap.size + 1, 5, none⟩) HB1.out).trans z5
          have x6 := (Below.cell hC (p := ⟨u.heap.size + 1, 6, none⟩) HB1.out).trans z6
          go_simp
        · refine owed_plain rfl rfl fun fr w hC hK K hk => ?_
          have k7 : slot fr 7 = .agg #[.int .i64 t.version, .int .i64 t.next, .int .i64 t.keep, .int .i64 t.quota, .slice q.a1 q.n1 q.c1, .slice q.a2 q.n2 q.c2, .slice q.a3 q.n3 q.c3] := known_in hK 7 (by kernel_rfl)
          clear hK
          unfold slot at k7
          go_simp
          refine (HX1.out w).mono ?_
          rintro e w' ⟨rfl, hb1⟩
          exact hk _ _ hb1 rfl
        · refine owed_val _ rfl rfl (fun _ => rfl) fun fr w hC hK => ?_
          have k6 : slot fr 6 = .agg #[.int .i64 s.version, .int .i64 s.next, .int .i64 s.keep, .int .i64 s.quota] := known_in hK 6 (by kernel_rfl)
          have k8 : slot fr 8 = .agg #[.int .i64 t.version, .int .i64 t.next, .int .i64 t.keep, .int .i64 t.quota] := known_in hK 8 (by kernel_rfl)
          clear hK
          unfold slot at k6 k8
          go_simp
          first
            | exact nm_if HD0.out w
            | (intro a b c d; have h := HD0.out; simp [a, b, c, d] at h; done)
            | (have h := HD0.out; simp only [Bool.and_eq_true, decide_eq_true_eq] at h; simp [h])
        · exact owed_move rfl rfl (.inl rfl) fun fr w _ hK => known_in hK 9 (by kernel_rfl)
        · refine owed_wval _ rfl rfl rfl (by kernel_rfl) (fun _ _ h => h) (fun _ => rfl) fun fr w hC hK => ?_
          have k2 : slot fr 2 = .pointer (some ⟨u.heap.size, 0, none⟩) := known_out hK 2 (by kernel_rfl)
          clear hK
          unfold slot at k2
          go_simp
        · refine owed_wval _ rfl rfl rfl (by kernel_rfl) (fun _ _ h => h) (fun _ => rfl) fun fr w hC hK => ?_
          have k11 : slot fr 11 = .pointer (some ⟨u.heap.size, 4, none⟩) := known_in hK 11 (by kernel_rfl)
          clear hK
          unfold slot at k11
          have x4 := (Below.cell hC (p := ⟨u.heap.size, 4, none⟩) HB0.out).trans y4
          go_simp
        · refine owed_wval _ rfl rfl rfl (by kernel_rfl) (fun _ _ h => h) (fun _ => rfl) fun fr w hC hK => ?_
          have k3 : slot fr 3 = .pointer (some ⟨u.heap.size + 1, 0, none⟩) := known_out hK 3 (by kernel_rfl)
          clear hK
          unfold slot at k3
          go_simp
        · refine owed_wval _ rfl rfl rfl (by kernel_rfl) (fun _ _ h => h) (fun _ => rfl) fun fr w hC hK => ?_
          have k13 : slot fr 13 = .pointer (some ⟨u.heap.size + 1, 4, none⟩) := known_in hK 13 (by kernel_rfl)
          clear hK
          unfold slot at k13
          have x4 := (Below.cell hC (p := ⟨u.heap.size + 1, 4, none⟩) HB1.out).trans z4
          go_simp
        · refine owed_wanted rfl rfl rfl (by kernel_rfl) (fun _ _ h => h) fun fr w hC hK K hk => ?_
          have k12 : slot fr 12 = .slice p.a1 p.n1 p.c1 := known_in hK 12 (by kernel_rfl)
          have k14 : slot fr 14 = .slice q.a1 q.n1 q.c1 := known_in hK 14 (by kernel_rfl)
          clear hK
          unfold slot at k12 k14
          go_simp
          refine (HE1.out w hC).mono ?_
          rintro e w' ⟨rfl, hb1⟩
          exact hk _ _ hb1 rfl
        · refine owed_val _ rfl rfl (fun _ => rfl) fun fr w hC hK => ?_
          have k10 : slot fr 10 = .bool true := known_in hK 10 (by kernel_rfl)
          have k15 : slot fr 15 = .bool true := known_in hK 15 (by kernel_rfl)
          clear hK
          unfold slot at k10 k15
          go_simp
        · exact owed_move rfl rfl (.inl rfl) fun fr w _ hK => known_in hK 16 (by kernel_rfl)
        · refine owed_wval _ rfl rfl rfl (by kernel_rfl) (fun _ _ h => h) (fun _ => rfl) fun fr w hC hK => ?_
          have k2 : slot fr 2 = .pointer (some ⟨u.heap.size, 0, none⟩) := known_out hK 2 (by kernel_rfl)
          clear hK
          unfold slot at k2
          go_simp
        · refine owed_wval _ rfl rfl rfl (by kernel_rfl) (fun _ _ h => h) (fun _ => rfl) fun fr w hC hK => ?_
          have k18 : slot fr 18 = .pointer (some ⟨u.heap.size, 5, none⟩) := known_in hK 18 (by kernel_rfl)
          clear hK
          unfold slot at k18
          have x5 := (Below.cell hC (p := ⟨u.heap.size, 5, none⟩) HB0.out).trans y5
          go_simp
        · refine owed_wval _ rfl rfl rfl (by kernel_rfl) (fun _ _ h => h) (fun _ => rfl) fun fr w hC hK => ?_
          have k3 : slot fr 3 = .pointer (some ⟨u.heap.size + 1, 0, none⟩) := known_out hK 3 (by kernel_rfl)
          clear hK
          unfold slot at k3
          go_simp
        · refine owed_wval _ rfl rfl rfl (by kernel_rfl) (fun _ _ h => h) (fun _ => rfl) fun fr w hC hK => ?_
          have k20 : slot fr 20 = .pointer (some ⟨u.heap.size + 1, 5, none⟩) := known_in hK 20 (by kernel_rfl)
          clear hK
          unfold slot at k20
          have x5 := (Below.cell hC (p := ⟨u.heap.size + 1, 5, none⟩) HB1.out).trans z5
          go_simp
        · refine owed_wanted rfl rfl rfl (by kernel_rfl) (fun _ _ h => h) fun fr w hC hK K hk => ?_
          have k19 : slot fr 19 = .slice p.a2 p.n2 p.c2 := known_in hK 19 (by kernel_rfl)
          have k21 : slot fr 21 = .slice q.a2 q.n2 q.c2 := known_in hK 21 (by kernel_rfl)
          clear hK
          unfold slot at k19 k21
          go_simp
          refine (HE2.out w hC).mono ?_
          rintro e w' ⟨rfl, hb1⟩
          exact hk _ _ hb1 rfl
        · refine owed_val _ rfl rfl (fun _ => rfl) fun fr w hC hK => ?_
          have k17 : slot fr 17 = .bool true := known_in hK 17 (by kernel_rfl)
          have k22 : slot fr 22 = .bool true := known_in hK 22 (by kernel_rfl)
          clear hK
          unfold slot at k17 k22
          go_simp
        · exact owed_move rfl rfl (.inl rfl) fun fr w _ hK => known_in hK 23 (by kernel_rfl)
        · refine owed_wval _ rfl rfl rfl (by kernel_rfl) (fun _ _ h => h) (fun _ => rfl) fun fr w hC hK => ?_
          have k2 : slot fr 2 = .pointer (some ⟨u.heap.size, 0, none⟩) := known_out hK 2 (by kernel_rfl)
          clear hK
          unfold slot at k2
          go_simp
        · refine owed_wval _ rfl rfl rfl (by kernel_rfl) (fun _ _ h => h) (fun _ => rfl) fun fr w hC hK => ?_
          have k25 : slot fr 25 = .pointer (some ⟨u.heap.size, 6, none⟩) := known_in hK 25 (by kernel_rfl)
          clear hK
          unfold slot at k25
          have x6 := (Below.cell hC (p := ⟨u.heap.size, 6, none⟩) HB0.out).trans y6
          go_simp
        · refine owed_wval _ rfl rfl rfl (by kernel_rfl) (fun _ _ h => h) (fun _ => rfl) fun fr w hC hK => ?_
          have k3 : slot fr 3 = .pointer (some ⟨u.heap.size + 1, 0, none⟩) := known_out hK 3 (by kernel_rfl)
          clear hK
          unfold slot at k3
          go_simp
        · refine owed_wval _ rfl rfl rfl (by kernel_rfl) (fun _ _ h => h) (fun _ => rfl) fun fr w hC hK => ?_
          have k27 : slot fr 27 = .pointer (some ⟨u.heap.size + 1, 6, none⟩) := known_in hK 27 (by kernel_rfl)
          clear hK
          unfold slot at k27
          have x6 := (Below.cell hC (p := ⟨u.heap.size + 1, 6, none⟩) HB1.out).trans z6
          go_simp
        · refine owed_wanted rfl rfl rfl (by kernel_rfl) (fun _ _ h => h) fun fr w hC hK K hk => ?_
          have k26 : slot fr 26 = .slice p.a3 p.n3 p.c3 := known_in hK 26 (by kernel_rfl)
          have k28 : slot fr 28 = .slice q.a3 q.n3 q.c3 := known_in hK 28 (by kernel_rfl)
          clear hK
          unfold slot at k26 k28
          go_simp
          refine (HE3.out w hC).mono ?_
          rintro e w' ⟨rfl, hb1⟩
          exact hk _ _ hb1 rfl
        · refine owed_val _ rfl rfl (fun _ => rfl) fun fr w hC hK => ?_
          have k24 : slot fr 24 = .bool true := known_in hK 24 (by kernel_rfl)
          have k29 : slot fr 29 = .bool E := known_in hK 29 (by kernel_rfl)
          clear hK
          unfold slot at k24 k29
          go_simp
        · exact owed_move rfl rfl (.inr rfl) fun fr w _ hK => known_in hK 30 (by kernel_rfl)
        intro vs w' hg hgood
        have h4 : vs 4 = .bool E := hgood.2.2.2.2.2.2.2.2.2.2.2.2.2.2.2.2.2.2.2.2.2.2.2.2.2.2.1
        clear hgood
        simp only [putsOf]
        rw [h4]
        go_simp
        go_wp2
        go_ret
        exact ⟨rfl, hbw1.trans (hg.mono hbw1.size)⟩
end Go.Proofs.Ytdkjdiamekfbdaa
