/-
  The walks of the landed command.Need, foreign.
-/
import Derived.Test.YtkagonijkalicaaCmFits
set_option linter.unusedVariables false
set_option linter.unusedSimpArgs false
namespace Go.Proofs.Ytkagonijkalicaa
open Go.RowKit
open Cm (Cmd inR inR_iff need need_bound Rule Span rule? noRule rule_need rule_known forRule foreignC foreign_rule riseGo)

theorem zero_rule (w : World) : (zeroValue 68).run Try.prog w = .ok (ragg noRule) w := by kernel_rfl
theorem ruleV_getD (k : Int) : (ruleV k).getD (ragg noRule) = ragg ((rule? k).getD noRule) := by
  unfold ruleV
  cases rule? k <;> rfl

theorem field_need (r : Rule) (w : World) : (Instr.field 68 (ragg r) 0).run Try.prog w = .ok (.int .i64 r.need) w := by
  unfold ragg rblk
  kernel_rfl

set_option maxHeartbeats 1000000 in
set_option maxRecDepth 100000 in
theorem need_c (k : Int) (w : World) (h : I64 k) : Calls Try.prog 22 #[.int .i64 k] w fun e w' => e = .returned (.int .i64 (need k)) ∧ Below w.heap.size w w' := by
  obtain ⟨h0, h1⟩ := h
  go_enter Try.func22, Try.ntmps22
  go_wp2_with fail
  refine (rules_any w).mono ?_
  rintro e w1 ⟨b, n, rfl, hn, hb, hmap, hb1⟩
  have hl := hmap.look Try.underlying3 Try.underlying69 (zero_rule w1) h0 h1
  rw [ruleV_getD] at hl
  have hrn := rule_need k
  generalize (rule? k).getD noRule = r at hl hrn
  have HRN := Lib.hid hrn
  clear hrn
  have hf := field_need r w1
  unfold ragg rblk at hl hf
  clear hmap
  go_wp2
  go_ret
  exact ⟨by rw [← HRN.out]; rfl, hb1⟩

set_option maxHeartbeats 4000000 in
set_option maxRecDepth 100000 in
theorem foreign_c (c : Cmd) (s : Option Addr × Nat) (v : Int) (w : World) (h : RdC w w.heap.size c s) (hc : Cok c) :
    Calls Try.prog 46 #[cagg c s, .int .i64 v] w fun e w' => e = .returned (.bool (foreignC c v)) ∧ Below w.heap.size w w' := by
  obtain ⟨w0, hw0, hk0, hb0, hs0⟩ := box_cmd w c s 24
  have HK := Lib.hid hk0
  have HD := Lib.hid ((h.below hb0).more (Nat.le_of_lt hs0))
  have HN := Lib.hid (need_c c.kind w0 hc.1.1)
  have HCO := Lib.hid hc
  obtain ⟨k0, k1, k2, k3, k4, k5, k6, k7⟩ := cblk_cells hk0
  obtain ⟨F, hF⟩ : ∃ F, foreignC c v = F := ⟨_, rfl⟩
  rw [hF]
  rw [foreign_rule] at hF
  have HF := Lib.hid hF
  have HW := Lib.hid hw0
  clear hw0 hk0 h hF hc
  unfold cagg cblk
  go_enter Try.func46, Try.ntmps46
  go_upto_region 1 with fail
  rw [show w.alloc (.cells #[.int .i64 c.kind, .int .i64 c.client, .int .i64 c.seq, .int .i64 c.set, .int .i64 c.id, .int .i64 c.n, .slice s.1 c.chunks.length s.2, .string (strOf c.text)] 24) = w0 from HW.out.symm]
  go_wp2_with fail
  refine HN.out.mono ?_
  rintro e w1 ⟨rfl, hb1⟩
  have hs1 := hb1.size
  have hbw1 := hb0.trans (hb1.mono (Nat.le_of_lt hs0))
  replace HK := Lib.hid (HK.out.below hb1 hs0)
  replace HD := Lib.hid ((HD.out.below hb1).more hs1)
  have hs1' := HK.out.lt
  clear k0 k1 k2 k3 k4 k5 k6 k7 HN HW hb1
  obtain ⟨k0, k1, k2, k3, k4, k5, k6, k7⟩ := cblk_cells HK.out
  have hnb := need_bound c.kind
  by_cases hq : need c.kind ≠ 0 ∧ need c.kind ≤ v
  · obtain rfl : F = false := by rw [← HF.out, if_pos hq]
    obtain ⟨q1, q2⟩ := hq
    have q1' : (need c.kind != 0) = true := by rw [bne_iff_ne]; exact q1
    clear q1
    go_wp2
    go_ret
    exact ⟨rfl, hbw1⟩
  · have hF := HF.out
    rw [if_neg hq] at hF
    have HF := Lib.hid hF
    clear hF
    have hgo : ∀ {P : Prop}, ((need c.kind != 0) = false → P) → ((need c.kind != 0) = true → v < need c.kind → P) → P := fun h1 h2 => by
      by_cases h : need c.kind = 0
      · exact h1 (by rw [h]; rfl)
      · exact h2 (by rw [bne_iff_ne]; exact h) (by omega)
    have hgo2 : ∀ {P : Prop}, ((need c.kind != 0) = false → 3 ≤ v → P) → ((need c.kind != 0) = false → v < 3 → P) → ((need c.kind != 0) = true → v < need c.kind → v < 3 → P) → P := fun h1 h3 h4 => by
      by_cases hv : 3 ≤ v
      · exact hgo (fun a => h1 a hv) (fun a b => absurd hv (by omega))
      · exact hgo (fun a => h3 a (by omega)) (fun a b => h4 a b (by omega))
    clear hq hgo
    refine hgo2 (fun q1 q3 => ?_) (fun q1 q3 => ?_) (fun q1 q2 q3 => ?_)
    · have hr : rblk (forRule v) = #[.int .i64 0, .int .i64 0, .int .i64 1048576, .int .i64 0, .int .i64 1048576, .int .i64 0, .int .i64 1048576, .int .i64 0, .int .i64 1048576, .int .i64 0, .int .i64 1048576, .int .i64 0, .int .i64 8, .int .i64 0, .int .i64 16] := by unfold forRule; rw [if_pos q3]; rfl
      have HRB := Lib.hid hr
      clear hr hgo2
      go_upto_region 9 with fail
      clear q1 q3
      obtain ⟨w4, hw4⟩ : ∃ w4 : World, w4 = ((w1.alloc (.cells #[.int .i64 0, .int .i64 1048576] 59)).alloc (.cells (rblk (forRule v)) 68)).alloc (.cells #[.int .i64 1, .int .i64 99] 59) := ⟨_, rfl⟩
      have hb4 : Below w1.heap.size w1 w4 := by rw [hw4]; exact (((Below.refl _ _).alloc (Nat.le_refl _) _).alloc (by simp) _).alloc (by simp; omega) _
      have hrk : Blk w4 (w1.heap.size + 1) 68 (rblk (forRule v)) := by rw [hw4]; simpa using (Blk.new (w1.alloc _) _ _).alloc _
      have hsk : Blk w4 (w1.heap.size + 2) 59 #[.int .i64 1, .int .i64 99] := by rw [hw4]; simpa using Blk.new ((w1.alloc _).alloc _) _ _
      rw [HRB.out] at hw4
      rw [← hw4]
      have HW4 := Lib.hid hw4
      have HRK := Lib.hid hrk
      have c1 := hsk.cell 0
      have c2 := hsk.cell 1
      simp at c1 c2
      have hbw4 := hbw1.trans (hb4.mono hbw1.size)
      replace HK := Lib.hid (HK.out.below hb4 hs1')
      replace HD := Lib.hid ((HD.out.below hb4).more hb4.size)
      have hs4 := HK.out.lt
      clear hw4 hrk hsk HRB k0 k1 k2 k3 k4 k5 k6 k7
      obtain ⟨k0, k1, k2, k3, k4, k5, k6, k7⟩ := cblk_cells HK.out
      go_wp2_with fail
      refine (holds_any ⟨1, 99⟩ c.kind w4).mono ?_
      rintro _ w5 ⟨rfl, hx⟩
      replace hb4 := hb4.trans (hx.mono hb4.size)
      have hbw5 := hbw4.trans (hx.mono hbw4.size)
      replace HK := Lib.hid (HK.out.below hx hs4)
      replace HRK := Lib.hid (HRK.out.below hx HRK.out.lt)
      replace HD := Lib.hid ((HD.out.below hx).more hx.size)
      have hs5 := HK.out.lt
      have hr5 := HRK.out.lt
      clear hx k0 k1 k2 k3 k4 k5 k6 k7 c1 c2
      obtain ⟨k0, k1, k2, k3, k4, k5, k6, k7⟩ := cblk_cells HK.out
      obtain ⟨r0, r1, r2, r3, r4, r5, r6, r7, r8, r9, r10, r11, r12, r13, r14⟩ := rblk_cells HRK.out
      obtain ⟨B, hB⟩ : ∃ B, Cm.Span.holds ⟨1, 99⟩ c.kind = B := ⟨_, rfl⟩
      rw [hB]
      have hB2 : inR c.kind 1 99 = B := hB
      have HF2 := HF.out
      rw [hB2] at HF2
      replace HF := Lib.hid HF2
      clear hB hB2 HF2
      cases B with
      | false =>
        go_wp2
        go_ret
        exact ⟨by rw [← HF.out]; rfl, hbw5⟩
      | true =>
        go_wp2_with fail
        refine (fits_any (forRule v) c s w5 HD.out HCO.out).mono ?_
        rintro _ w6 ⟨rfl, hx6⟩
        rw [show (forRule v).fits c = F from HF.out]
        go_wp2
        go_ret
        exact ⟨rfl, hbw5.trans (hx6.mono hbw5.size)⟩
    · have hr : rblk (forRule v) = #[.int .i64 0, .int .i64 0, .int .i64 1048576, .int .i64 0, .int .i64 1048576, .int .i64 0, .int .i64 1048576, .int .i64 0, .int .i64 1048576, .int .i64 0, .int .i64 1048576, .int .i64 0, .int .i64 8, .int .i64 0, .int .i64 0] := by unfold forRule; rw [if_neg (by omega)]; rfl
      have HRB := Lib.hid hr
      clear hr hgo2
      go_upto_region 9 with fail
      clear q1 q3
      obtain ⟨w4, hw4⟩ : ∃ w4 : World, w4 = ((w1.alloc (.cells #[.int .i64 0, .int .i64 1048576] 59)).alloc (.cells (rblk (forRule v)) 68)).alloc (.cells #[.int .i64 1, .int .i64 99] 59) := ⟨_, rfl⟩
      have hb4 : Below w1.heap.size w1 w4 := by rw [hw4]; exact (((Below.refl _ _).alloc (Nat.le_refl _) _).alloc (by simp) _).alloc (by simp; omega) _
      have hrk : Blk w4 (w1.heap.size + 1) 68 (rblk (forRule v)) := by rw [hw4]; simpa using (Blk.new (w1.alloc _) _ _).alloc _
      have hsk : Blk w4 (w1.heap.size + 2) 59 #[.int .i64 1, .int .i64 99] := by rw [hw4]; simpa using Blk.new ((w1.alloc _).alloc _) _ _
      rw [HRB.out] at hw4
      rw [← hw4]
      have HW4 := Lib.hid hw4
      have HRK := Lib.hid hrk
      have c1 := hsk.cell 0
      have c2 := hsk.cell 1
      simp at c1 c2
      have hbw4 := hbw1.trans (hb4.mono hbw1.size)
      replace HK := Lib.hid (HK.out.below hb4 hs1')
      replace HD := Lib.hid ((HD.out.below hb4).more hb4.size)
      have hs4 := HK.out.lt
      clear hw4 hrk hsk HRB k0 k1 k2 k3 k4 k5 k6 k7
      obtain ⟨k0, k1, k2, k3, k4, k5, k6, k7⟩ := cblk_cells HK.out
      go_wp2_with fail
      refine (holds_any ⟨1, 99⟩ c.kind w4).mono ?_
      rintro _ w5 ⟨rfl, hx⟩
      replace hb4 := hb4.trans (hx.mono hb4.size)
      have hbw5 := hbw4.trans (hx.mono hbw4.size)
      replace HK := Lib.hid (HK.out.below hx hs4)
      replace HRK := Lib.hid (HRK.out.below hx HRK.out.lt)
      replace HD := Lib.hid ((HD.out.below hx).more hx.size)
      have hs5 := HK.out.lt
      have hr5 := HRK.out.lt
      clear hx k0 k1 k2 k3 k4 k5 k6 k7 c1 c2
      obtain ⟨k0, k1, k2, k3, k4, k5, k6, k7⟩ := cblk_cells HK.out
      obtain ⟨r0, r1, r2, r3, r4, r5, r6, r7, r8, r9, r10, r11, r12, r13, r14⟩ := rblk_cells HRK.out
      obtain ⟨B, hB⟩ : ∃ B, Cm.Span.holds ⟨1, 99⟩ c.kind = B := ⟨_, rfl⟩
      rw [hB]
      have hB2 : inR c.kind 1 99 = B := hB
      have HF2 := HF.out
      rw [hB2] at HF2
      replace HF := Lib.hid HF2
      clear hB hB2 HF2
      cases B with
      | false =>
        go_wp2
        go_ret
        exact ⟨by rw [← HF.out]; rfl, hbw5⟩
      | true =>
        go_wp2_with fail
        refine (fits_any (forRule v) c s w5 HD.out HCO.out).mono ?_
        rintro _ w6 ⟨rfl, hx6⟩
        rw [show (forRule v).fits c = F from HF.out]
        go_wp2
        go_ret
        exact ⟨rfl, hbw5.trans (hx6.mono hbw5.size)⟩
    · have hr : rblk (forRule v) = #[.int .i64 0, .int .i64 0, .int .i64 1048576, .int .i64 0, .int .i64 1048576, .int .i64 0, .int .i64 1048576, .int .i64 0, .int .i64 1048576, .int .i64 0, .int .i64 1048576, .int .i64 0, .int .i64 8, .int .i64 0, .int .i64 0] := by unfold forRule; rw [if_neg (by omega)]; rfl
      have HRB := Lib.hid hr
      clear hr hgo2
      go_upto_region 9 with fail
      clear q1 q3 q2
      obtain ⟨w4, hw4⟩ : ∃ w4 : World, w4 = ((w1.alloc (.cells #[.int .i64 0, .int .i64 1048576] 59)).alloc (.cells (rblk (forRule v)) 68)).alloc (.cells #[.int .i64 1, .int .i64 99] 59) := ⟨_, rfl⟩
      have hb4 : Below w1.heap.size w1 w4 := by rw [hw4]; exact (((Below.refl _ _).alloc (Nat.le_refl _) _).alloc (by simp) _).alloc (by simp; omega) _
      have hrk : Blk w4 (w1.heap.size + 1) 68 (rblk (forRule v)) := by rw [hw4]; simpa using (Blk.new (w1.alloc _) _ _).alloc _
      have hsk : Blk w4 (w1.heap.size + 2) 59 #[.int .i64 1, .int .i64 99] := by rw [hw4]; simpa using Blk.new ((w1.alloc _).alloc _) _ _
      rw [HRB.out] at hw4
      rw [← hw4]
      have HW4 := Lib.hid hw4
      have HRK := Lib.hid hrk
      have c1 := hsk.cell 0
      have c2 := hsk.cell 1
      simp at c1 c2
      have hbw4 := hbw1.trans (hb4.mono hbw1.size)
      replace HK := Lib.hid (HK.out.below hb4 hs1')
      replace HD := Lib.hid ((HD.out.below hb4).more hb4.size)
      have hs4 := HK.out.lt
      clear hw4 hrk hsk HRB k0 k1 k2 k3 k4 k5 k6 k7
      obtain ⟨k0, k1, k2, k3, k4, k5, k6, k7⟩ := cblk_cells HK.out
      go_wp2_with fail
      refine (holds_any ⟨1, 99⟩ c.kind w4).mono ?_
      rintro _ w5 ⟨rfl, hx⟩
      replace hb4 := hb4.trans (hx.mono hb4.size)
      have hbw5 := hbw4.trans (hx.mono hbw4.size)
      replace HK := Lib.hid (HK.out.below hx hs4)
      replace HRK := Lib.hid (HRK.out.below hx HRK.out.lt)
      replace HD := Lib.hid ((HD.out.below hx).more hx.size)
      have hs5 := HK.out.lt
      have hr5 := HRK.out.lt
      clear hx k0 k1 k2 k3 k4 k5 k6 k7 c1 c2
      obtain ⟨k0, k1, k2, k3, k4, k5, k6, k7⟩ := cblk_cells HK.out
      obtain ⟨r0, r1, r2, r3, r4, r5, r6, r7, r8, r9, r10, r11, r12, r13, r14⟩ := rblk_cells HRK.out
      obtain ⟨B, hB⟩ : ∃ B, Cm.Span.holds ⟨1, 99⟩ c.kind = B := ⟨_, rfl⟩
      rw [hB]
      have hB2 : inR c.kind 1 99 = B := hB
      have HF2 := HF.out
      rw [hB2] at HF2
      replace HF := Lib.hid HF2
      clear hB hB2 HF2
      cases B with
      | false =>
        go_wp2
        go_ret
        exact ⟨by rw [← HF.out]; rfl, hbw5⟩
      | true =>
        go_wp2_with fail
        refine (fits_any (forRule v) c s w5 HD.out HCO.out).mono ?_
        rintro _ w6 ⟨rfl, hx6⟩
        rw [show (forRule v).fits c = F from HF.out]
        go_wp2
        go_ret
        exact ⟨rfl, hbw5.trans (hx6.mono hbw5.size)⟩
end Go.Proofs.Ytkagonijkalicaa
