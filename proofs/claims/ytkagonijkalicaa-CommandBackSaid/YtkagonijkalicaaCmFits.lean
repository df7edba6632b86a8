/-
  The walk of the landed command's fits: a command is like a rule.
-/
import Derived.Test.YtkagonijkalicaaCmRise
import Derived.Test.YtkagonijkalicaaCmMay
set_option linter.unusedVariables false
set_option linter.unusedSimpArgs false
namespace Go.Proofs.Ytkagonijkalicaa
open Go.RowKit
open Cm (Cmd inR inR_iff need Rule Span rule? noRule riseGo)

theorem rblk_cells {w : World} {g : Nat} {t : TypeId} {r : Rule} (h : Blk w g t (rblk r)) :
    w.cell? ⟨g, 0, none⟩ = some (.int .i64 r.need) ∧ w.cell? ⟨g, 1, none⟩ = some (.int .i64 r.client.a) ∧ w.cell? ⟨g, 2, none⟩ = some (.int .i64 r.client.b) ∧ w.cell? ⟨g, 3, none⟩ = some (.int .i64 r.seq.a) ∧ w.cell? ⟨g, 4, none⟩ = some (.int .i64 r.seq.b) ∧
    w.cell? ⟨g, 5, none⟩ = some (.int .i64 r.set.a) ∧ w.cell? ⟨g, 6, none⟩ = some (.int .i64 r.set.b) ∧ w.cell? ⟨g, 7, none⟩ = some (.int .i64 r.id.a) ∧ w.cell? ⟨g, 8, none⟩ = some (.int .i64 r.id.b) ∧ w.cell? ⟨g, 9, none⟩ = some (.int .i64 r.n.a) ∧ w.cell? ⟨g, 10, none⟩ = some (.int .i64 r.n.b) ∧
    w.cell? ⟨g, 11, none⟩ = some (.int .i64 r.chunks.a) ∧ w.cell? ⟨g, 12, none⟩ = some (.int .i64 r.chunks.b) ∧ w.cell? ⟨g, 13, none⟩ = some (.int .i64 r.text.a) ∧ w.cell? ⟨g, 14, none⟩ = some (.int .i64 r.text.b) :=
  ⟨h.cell 0, h.cell 1, h.cell 2, h.cell 3, h.cell 4, h.cell 5, h.cell 6, h.cell 7, h.cell 8, h.cell 9, h.cell 10, h.cell 11, h.cell 12, h.cell 13, h.cell 14⟩

set_option maxHeartbeats 8000000 in
set_option maxRecDepth 100000 in
theorem fits_any (r : Rule) (c : Cmd) (s : Option Addr × Nat) (w : World) (h : RdC w w.heap.size c s) (hc : Cok c) :
    Calls Try.prog 44 #[ragg r, cagg c s] w fun e w' => e = .returned (.bool (r.fits c)) ∧ Below w.heap.size w w' := by
  obtain ⟨w0, hw0⟩ : ∃ w0 : World, w0 = (w.alloc (.cells (rblk r) 68)).alloc (.cells (cblk c s) 24) := ⟨_, rfl⟩
  have hb0 : Below w.heap.size w w0 := by rw [hw0]; exact ((Below.refl _ _).alloc (Nat.le_refl _) _).alloc (by simp) _
  have hk0 : Blk w0 w.heap.size 68 (rblk r) := by rw [hw0]; exact (Blk.new _ _ _).alloc _
  have hk1 : Blk w0 (w.heap.size + 1) 24 (cblk c s) := by rw [hw0]; simpa using Blk.new (w.alloc _) (cblk c s) 24
  have hs0 : w.heap.size ≤ w0.heap.size := hb0.size
  have HR := Lib.hid hk0
  have HC := Lib.hid hk1
  have HD := Lib.hid ((h.below hb0).more hs0)
  have HW := Lib.hid hw0
  have hlr := hk0.lt
  have hlc := hk1.lt
  have hsz := strOf_size c.text
  have hl1 := hc.2.2.2.1
  have hl2 := hc.2.2.2.2
  obtain ⟨FV, hFV⟩ : ∃ FV, r.fits c = FV := ⟨_, rfl⟩
  rw [hFV]
  have HV := Lib.hid hFV
  unfold Rule.fits at HV
  clear hw0 hk0 hk1 h hFV hc
  obtain ⟨r0, r1, r2, r3, r4, r5, r6, r7, r8, r9, r10, r11, r12, r13, r14⟩ := rblk_cells HR.out
  obtain ⟨k0, k1, k2, k3, k4, k5, k6, k7⟩ := cblk_cells HC.out
  unfold ragg cagg
  go_enter Try.func44, Try.ntmps44
  unfold rblk cblk
  go_upto_region 1 with fail
  rw [show (w.alloc (.cells #[.int .i64 r.need, .int .i64 r.client.a, .int .i64 r.client.b, .int .i64 r.seq.a, .int .i64 r.seq.b, .int .i64 r.set.a, .int .i64 r.set.b, .int .i64 r.id.a, .int .i64 r.id.b, .int .i64 r.n.a, .int .i64 r.n.b, .int .i64 r.chunks.a, .int .i64 r.chunks.b, .int .i64 r.text.a, .int .i64 r.text.b] 68)).alloc
    (.cells #[.int .i64 c.kind, .int .i64 c.client, .int .i64 c.seq, .int .i64 c.set, .int .i64 c.id, .int .i64 c.n, .slice s.1 c.chunks.length s.2, .string (strOf c.text)] 24) = w0 from HW.out.symm]
  clear HW

  go_wp2_with fail
  refine (holds_any r.client c.client w0).mono ?_
  rintro _ w1 ⟨rfl, hx⟩
  replace hb0 := hb0.trans (hx.mono hs0)
  replace hs0 := hb0.size
  replace HR := Lib.hid (HR.out.below hx hlr)
  replace HC := Lib.hid (HC.out.below hx hlc)
  replace HD := Lib.hid ((HD.out.below hx).more hx.size)
  replace hlr := HR.out.lt
  replace hlc := HC.out.lt
  clear hx r0 r1 r2 r3 r4 r5 r6 r7 r8 r9 r10 r11 r12 r13 r14 k0 k1 k2 k3 k4 k5 k6 k7
  obtain ⟨r0, r1, r2, r3, r4, r5, r6, r7, r8, r9, r10, r11, r12, r13, r14⟩ := rblk_cells HR.out
  obtain ⟨k0, k1, k2, k3, k4, k5, k6, k7⟩ := cblk_cells HC.out
  obtain ⟨b0, hb0_⟩ : ∃ b, Cm.Span.holds r.client c.client = b := ⟨_, rfl⟩
  rw [hb0_]
  replace HV := Lib.hid (show _ = FV from hb0_ ▸ HV.out)
  clear hb0_
  cases b0 with
  | false =>
    go_wp2
    go_ret
    exact ⟨by rw [← HV.out]; simp, hb0⟩
  | true =>
    go_wp2_with fail
    refine (holds_any r.seq c.seq w1).mono ?_
    rintro _ w2 ⟨rfl, hx⟩
    replace hb0 := hb0.trans (hx.mono hs0)
    replace hs0 := hb0.size
    replace HR := Lib.hid (HR.out.below hx hlr)
    replace HC := Lib.hid (HC.out.below hx hlc)
    replace HD := Lib.hid ((HD.out.below hx).more hx.size)
    replace hlr := HR.out.lt
    replace hlc := HC.out.lt
    clear hx r0 r1 r2 r3 r4 r5 r6 r7 r8 r9 r10 r11 r12 r13 r14 k0 k1 k2 k3 k4 k5 k6 k7
    obtain ⟨r0, r1, r2, r3, r4, r5, r6, r7, r8, r9, r10, r11, r12, r13, r14⟩ := rblk_cells HR.out
    obtain ⟨k0, k1, k2, k3, k4, k5, k6, k7⟩ := cblk_cells HC.out
    obtain ⟨b1, hb1_⟩ : ∃ b, Cm.Span.holds r.seq c.seq = b := ⟨_, rfl⟩
    rw [hb1_]
    replace HV := Lib.hid (show _ = FV from hb1_ ▸ HV.out)
    clear hb1_
    cases b1 with
    | false =>
      go_wp2
      go_ret
      exact ⟨by rw [← HV.out]; simp, hb0⟩
    | true =>
      go_wp2_with fail
      refine (holds_any r.set c.set w2).mono ?_
      rintro _ w3 ⟨rfl, hx⟩
      replace hb0 := hb0.trans (hx.mono hs0)
      replace hs0 := hb0.size
      replace HR := Lib.hid (HR.out.below hx hlr)
      replace HC := Lib.hid (HC.out.below hx hlc)
      replace HD := Lib.hid ((HD.out.below hx).more hx.size)
      replace hlr := HR.out.lt
      replace hlc := HC.out.lt
      clear hx r0 r1 r2 r3 r4 r5 r6 r7 r8 r9 r10 r11 r12 r13 r14 k0 k1 k2 k3 k4 k5 k6 k7
      obtain ⟨r0, r1, r2, r3, r4, r5, r6, r7, r8, r9, r10, r11, r12, r13, r14⟩ := rblk_cells HR.out
      obtain ⟨k0, k1, k2, k3, k4, k5, k6, k7⟩ := cblk_cells HC.out
      obtain ⟨b2, hb2_⟩ : ∃ b, Cm.Span.holds r.set c.set = b := ⟨_, rfl⟩
      rw [hb2_]
      replace HV := Lib.hid (show _ = FV from hb2_ ▸ HV.out)
      clear hb2_
      cases b2 with
      | false =>
        go_wp2
        go_ret
        exact ⟨by rw [← HV.out]; simp, hb0⟩
      | true =>
        go_wp2_with fail
        refine (holds_any r.id c.id w3).mono ?_
        rintro _ w4 ⟨rfl, hx⟩
        replace hb0 := hb0.trans (hx.mono hs0)
        replace hs0 := hb0.size
        replace HR := Lib.hid (HR.out.below hx hlr)
        replace HC := Lib.hid (HC.out.below hx hlc)
        replace HD := Lib.hid ((HD.out.below hx).more hx.size)
        replace hlr := HR.out.lt
        replace hlc := HC.out.lt
        clear hx r0 r1 r2 r3 r4 r5 r6 r7 r8 r9 r10 r11 r12 r13 r14 k0 k1 k2 k3 k4 k5 k6 k7
        obtain ⟨r0, r1, r2, r3, r4, r5, r6, r7, r8, r9, r10, r11, r12, r13, r14⟩ := rblk_cells HR.out
        obtain ⟨k0, k1, k2, k3, k4, k5, k6, k7⟩ := cblk_cells HC.out
        obtain ⟨b3, hb3_⟩ : ∃ b, Cm.Span.holds r.id c.id = b := ⟨_, rfl⟩
        rw [hb3_]
        replace HV := Lib.hid (show _ = FV from hb3_ ▸ HV.out)
        clear hb3_
        cases b3 with
        | false =>
          go_wp2
          go_ret
          exact ⟨by rw [← HV.out]; simp, hb0⟩
        | true =>
          go_wp2_with fail
          refine (holds_any r.n c.n w4).mono ?_
          rintro _ w5 ⟨rfl, hx⟩
          replace hb0 := hb0.trans (hx.mono hs0)
          replace hs0 := hb0.size
          replace HR := Lib.hid (HR.out.below hx hlr)
          replace HC := Lib.hid (HC.out.below hx hlc)
          replace HD := Lib.hid ((HD.out.below hx).more hx.size)
          replace hlr := HR.out.lt
          replace hlc := HC.out.lt
          clear hx r0 r1 r2 r3 r4 r5 r6 r7 r8 r9 r10 r11 r12 r13 r14 k0 k1 k2 k3 k4 k5 k6 k7
          obtain ⟨r0, r1, r2, r3, r4, r5, r6, r7, r8, r9, r10, r11, r12, r13, r14⟩ := rblk_cells HR.out
          obtain ⟨k0, k1, k2, k3, k4, k5, k6, k7⟩ := cblk_cells HC.out
          obtain ⟨b4, hb4_⟩ : ∃ b, Cm.Span.holds r.n c.n = b := ⟨_, rfl⟩
          rw [hb4_]
          replace HV := Lib.hid (show _ = FV from hb4_ ▸ HV.out)
          clear hb4_
          cases b4 with
          | false =>
            go_wp2
            go_ret
            exact ⟨by rw [← HV.out]; simp, hb0⟩
          | true =>
            go_wp2_with fail
            refine (holds_any r.chunks ((c.chunks.length : Nat) : Int) w5).mono ?_
            rintro _ w6 ⟨rfl, hx⟩
            replace hb0 := hb0.trans (hx.mono hs0)
            replace hs0 := hb0.size
            replace HR := Lib.hid (HR.out.below hx hlr)
            replace HC := Lib.hid (HC.out.below hx hlc)
            replace HD := Lib.hid ((HD.out.below hx).more hx.size)
            replace hlr := HR.out.lt
            replace hlc := HC.out.lt
            clear hx r0 r1 r2 r3 r4 r5 r6 r7 r8 r9 r10 r11 r12 r13 r14 k0 k1 k2 k3 k4 k5 k6 k7
            obtain ⟨r0, r1, r2, r3, r4, r5, r6, r7, r8, r9, r10, r11, r12, r13, r14⟩ := rblk_cells HR.out
            obtain ⟨k0, k1, k2, k3, k4, k5, k6, k7⟩ := cblk_cells HC.out
            obtain ⟨b5, hb5_⟩ : ∃ b, Cm.Span.holds r.chunks ((c.chunks.length : Nat) : Int) = b := ⟨_, rfl⟩
            rw [hb5_]
            replace HV := Lib.hid (show _ = FV from hb5_ ▸ HV.out)
            clear hb5_
            cases b5 with
            | false =>
              go_wp2
              go_ret
              exact ⟨by rw [← HV.out]; simp, hb0⟩
            | true =>
              go_wp2_with fail
              refine (rise_chunks s.1 c.chunks.length s.2 c.chunks w6 HD.out.1 HD.out.2.1 HD.out.2.2).mono ?_
              rintro _ w7 ⟨rfl, hx⟩
              replace hb0 := hb0.trans (hx.mono hs0)
              replace hs0 := hb0.size
              replace HR := Lib.hid (HR.out.below hx hlr)
              replace HC := Lib.hid (HC.out.below hx hlc)
              replace HD := Lib.hid ((HD.out.below hx).more hx.size)
              replace hlr := HR.out.lt
              replace hlc := HC.out.lt
              clear hx r0 r1 r2 r3 r4 r5 r6 r7 r8 r9 r10 r11 r12 r13 r14 k0 k1 k2 k3 k4 k5 k6 k7
              obtain ⟨r0, r1, r2, r3, r4, r5, r6, r7, r8, r9, r10, r11, r12, r13, r14⟩ := rblk_cells HR.out
              obtain ⟨k0, k1, k2, k3, k4, k5, k6, k7⟩ := cblk_cells HC.out
              obtain ⟨b6, hb6_⟩ : ∃ b, riseGo 0 c.chunks = b := ⟨_, rfl⟩
              rw [hb6_]
              replace HV := Lib.hid (show _ = FV from hb6_ ▸ HV.out)
              clear hb6_
              cases b6 with
              | false =>
                go_wp2
                go_ret
                exact ⟨by rw [← HV.out]; simp, hb0⟩
              | true =>
                go_wp2_with fail
                refine (holds_any r.text ((c.text.length : Nat) : Int) w7).mono ?_
                rintro _ w8 ⟨rfl, hx⟩
                replace hb0 := hb0.trans (hx.mono hs0)
                replace hs0 := hb0.size
                replace HR := Lib.hid (HR.out.below hx hlr)
                replace HC := Lib.hid (HC.out.below hx hlc)
                replace HD := Lib.hid ((HD.out.below hx).more hx.size)
                replace hlr := HR.out.lt
                replace hlc := HC.out.lt
                clear hx r0 r1 r2 r3 r4 r5 r6 r7 r8 r9 r10 r11 r12 r13 r14 k0 k1 k2 k3 k4 k5 k6 k7
                obtain ⟨r0, r1, r2, r3, r4, r5, r6, r7, r8, r9, r10, r11, r12, r13, r14⟩ := rblk_cells HR.out
                obtain ⟨k0, k1, k2, k3, k4, k5, k6, k7⟩ := cblk_cells HC.out
                obtain ⟨b7, hb7_⟩ : ∃ b, Cm.Span.holds r.text ((c.text.length : Nat) : Int) = b := ⟨_, rfl⟩
                rw [hb7_]
                replace HV := Lib.hid (show _ = FV from hb7_ ▸ HV.out)
                clear hb7_
                go_wp2
                go_ret
                exact ⟨by rw [← HV.out]; simp, hb0⟩
end Go.Proofs.Ytkagonijkalicaa
