/-
  The walk of the landed command.May.
-/
import Derived.Test.YtkagonijkalicaaCmNeed
import Derived.Test.YtkagonijkalicaaMgE
import Derived.Laws.Tables
set_option linter.unusedVariables false
set_option linter.unusedSimpArgs false
namespace Go.Proofs.Ytkagonijkalicaa
open Go.RowKit
open Cm (Cmd inR inR_iff need need_bound Rule Span rule? noRule rule_need rule_known mayC may_rule riseGo)

theorem Blk.row {w : World} {g : Nat} {t : TypeId} {cs : Array Value} (h : Blk w g t cs) (cs' : Array Value) : Blk (w.setRow g cs') g t cs' ∧ w.grownBy (w.setRow g cs') (some g) :=
  ⟨setRow_heap w g cs cs' t (0, 0) h, rfl, rfl, rfl, by simp, fun k _ hne => setRow_other w g k cs' (fun e => hne (by rw [e]))⟩
theorem run_store_row {P : Program} {w : World} {g : Nat} {t : TypeId} {cs : Array Value} (h : Blk w g t cs) (ty : TypeId) (cs' : Array Value) (hi : (P.info? ty).map (·.size) = some cs'.size) (ho : cs.size = cs'.size) (h1 : cs'.all (·.oneCell') = true) :
    (Instr.storeAt ty (.pointer (some ⟨g, 0, none⟩)) (.agg cs')).run P w = .ok () (w.setRow g cs') := by
  simp only [Instr.storeAt, Instr.sureAddr, Sem.run_bind, Sem.run_pure, Result.andThen_ok, run_storeVar_row w g t ty cs cs' h hi ho h1]
theorem map_no_blk {P : Program} {K : TypeId} {w : World} {b n : Nat} {f : Int → Option Value} (h : MapI P K w b n f) {t : TypeId} {cs : Array Value} : ¬ Blk w b t cs := by
  rintro hk
  obtain ⟨D, ⟨es, clock, hh, _⟩, _⟩ := h
  unfold Blk at hk
  rw [hh] at hk
  cases hk
theorem rblk_size (r : Rule) : (rblk r).size = 15 := rfl
theorem rblk_one (r : Rule) : (rblk r).all (·.oneCell') = true := by simp [rblk, Value.oneCell']

/-- What is said of the temporaries of May's first region. -/
def GM (B : Nat) (val : Tmp → Value) : Tmp → Value → World → Prop := fun t v w =>
  if t = 8 then ∃ b n, v = .map (some b) ∧ MapI Try.prog 3 w b n ruleV
  else if t = 5 then ∃ g r', v = .pointer (some ⟨g, 0, none⟩) ∧ B ≤ g ∧ Blk w g 68 (rblk r')
  else v = val t
theorem GM_val {B : Nat} {val : Tmp → Value} {t : Tmp} {v : Value} {w : World} (h : GM B val t v w) (h8 : t ≠ 8) (h5 : t ≠ 5) : v = val t := by unfold GM at h; rwa [if_neg h8, if_neg h5] at h
theorem GM_of {B : Nat} {val : Tmp → Value} {t : Tmp} {w : World} (h8 : t ≠ 8) (h5 : t ≠ 5) : GM B val t (val t) w := by unfold GM; rw [if_neg h8, if_neg h5]
theorem GM_grew {B : Nat} {val : Tmp → Value} (t : Tmp) (v : Value) (w w' : World) (hx : Below w.heap.size w w') (h : GM B val t v w) : GM B val t v w' := by
  unfold GM at *
  split at h
  · rename_i he
    rw [if_pos he]
    obtain ⟨b, n, h1, h2⟩ := h
    exact ⟨b, n, h1, h2.below hx h2.lt⟩
  · rename_i he
    rw [if_neg he]
    split at h
    · rename_i he5
      rw [if_pos he5]
      obtain ⟨g, r', h1, h2, h3⟩ := h
      exact ⟨g, r', h1, h2, h3.below hx h3.lt⟩
    · rename_i he5
      rw [if_neg he5]; exact h
theorem GM_store {B g : Nat} {r r0 : Rule} {val : Tmp → Value} (t : Tmp) (v : Value) (w : World) (hg : Blk w g 68 (rblk r0)) (h : GM B val t v w) : GM B val t v (w.setRow g (rblk r)) := by
  obtain ⟨k1, k2⟩ := hg.row (rblk r)
  unfold GM at *
  split at h
  · rename_i he
    rw [if_pos he]
    obtain ⟨b, n, h1, h2⟩ := h
    refine ⟨b, n, h1, h2.kept k2 fun e => ?_⟩
    injection e with e
    subst e
    exact map_no_blk h2 hg
  · rename_i he
    rw [if_neg he]
    split at h
    · rename_i he5
      rw [if_pos he5]
      obtain ⟨g', r', h1, h2, h3⟩ := h
      by_cases hgg : g' = g
      · subst hgg
        exact ⟨g', r, h1, h2, k1⟩
      · exact ⟨g', r', h1, h2, (k2.block g' h3.lt (fun e => hgg (by injection e))).trans h3⟩
    · rename_i he5
      rw [if_neg he5]; exact h

set_option maxHeartbeats 4000000 in
set_option maxRecDepth 100000 in
theorem may_c (c : Cmd) (s : Option Addr × Nat) (v : Int) (w : World) (h : RdC w w.heap.size c s) (hc : Cok c) (_hv : I64 v) :
    Calls Try.prog 24 #[cagg c s, .int .i64 v] w fun e w' => e = .returned (.int .i64 (mayC c v : Nat)) ∧ Below w.heap.size w w' := by
  obtain ⟨w0, hw0, hk0, hb0, hs0⟩ := box_cmd w c s 24
  have HK := Lib.hid hk0
  have HD := Lib.hid ((h.below hb0).more (Nat.le_of_lt hs0))
  have HCO := Lib.hid hc
  obtain ⟨R, hR⟩ : ∃ R, mayC c v = R := ⟨_, rfl⟩
  rw [hR]
  rw [may_rule] at hR
  have HR := Lib.hid hR
  have hki := hc.1.1
  have hrn := rule_need c.kind
  have hrk := rule_known c.kind
  obtain ⟨r, hr⟩ : ∃ r, (rule? c.kind).getD noRule = r := ⟨_, rfl⟩
  obtain ⟨kn, hkn⟩ : ∃ kn, (rule? c.kind).isSome = kn := ⟨_, rfl⟩
  have hgd := ruleV_getD c.kind
  have hsm : (ruleV c.kind).isSome = kn := by rw [← hkn]; unfold ruleV; cases rule? c.kind <;> rfl
  rw [hr] at hrn hgd
  have HRN := Lib.hid hrn
  have HGD := Lib.hid hgd
  have HSM := Lib.hid hsm
  have HKN := Lib.hid hkn
  have HRR := Lib.hid hr
  obtain ⟨k0, k1, k2, k3, k4, k5, k6, k7⟩ := cblk_cells hk0
  obtain ⟨bc, hbc⟩ : ∃ bc, bc = w.heap.size := ⟨_, rfl⟩
  have HBC := Lib.hid hbc
  have HW := Lib.hid hw0
  rw [← hbc] at hk0
  have HKB := Lib.hid hk0
  rw [← hbc] at hs0
  clear hw0 hk0 h hR hc hrn hgd hsm hkn hr hrk k0 k1 k2 k3 k4 k5 k6 k7
  unfold cagg cblk
  go_enter Try.func24, Try.ntmps24
  go_upto_region 1 with fail
  rw [show w.alloc (.cells #[.int .i64 c.kind, .int .i64 c.client, .int .i64 c.seq, .int .i64 c.set, .int .i64 c.id, .int .i64 c.n, .slice s.1 c.chunks.length s.2, .string (strOf c.text)] 24) = w0 from HW.out.symm, ← hbc]
  clear hbc
  refine wp_region_one (n := 32) 8 5 68 (rblk r) (GM w0.heap.size (pickV [(9, .pointer (some ⟨bc, 0, none⟩)), (10, .int .i64 c.kind), (11, .tuple #[ragg r, .bool kn]), (7, .tuple #[ragg r, .bool kn]), (12, ragg r), (13, .bool kn), (6, .bool kn)])) (by kernel_rfl) (by kernel_rfl) rfl (by decide) ⟨?_, ?_, ?_, ?_, ?_, ?_, ?_, ?_, ?_, ?_, trivial⟩ ?_
  · refine owedO_ahead rfl rfl (by decide) (by kernel_rfl) GM_grew fun fr w hb hK K hk => ?_
    clear hK
    go_simp
    refine (rules_any w).mono ?_
    rintro e w' ⟨b, n, rfl, hn, hbb, hmap, hx⟩
    exact hk _ _ hx ⟨b, n, rfl, hmap⟩
  · refine owedO_val (.pointer (some ⟨bc, 0, none⟩)) rfl rfl (by decide) (by kernel_rfl) GM_grew (fun _ => GM_of (by decide) (by decide)) fun fr w hb hK => ?_
    have k2 : slot fr 2 = .pointer (some ⟨bc, 0, none⟩) := (known_out hK 2 (by kernel_rfl)).trans rfl
    clear hK
    unfold slot at k2
    go_simp
  · refine owedO_val (.int .i64 c.kind) rfl rfl (by decide) (by kernel_rfl) GM_grew (fun _ => GM_of (by decide) (by decide)) fun fr w hb hK => ?_
    have k9 : slot fr 9 = .pointer (some ⟨bc, 0, none⟩) := GM_val (known_in hK 9 (by kernel_rfl)) (by decide) (by decide)
    clear hK
    unfold slot at k9
    have x0 : w.cell? ⟨bc, 0, none⟩ = some (.int .i64 c.kind) := (HKB.out.below (below_drew hb) hs0).cell 0
    go_simp
  · refine owedO_val (.tuple #[ragg r, .bool kn]) rfl rfl (by decide) (by kernel_rfl) GM_grew (fun _ => GM_of (by decide) (by decide)) fun fr w hb hK => ?_
    have k10 : slot fr 10 = .int .i64 c.kind := GM_val (known_in hK 10 (by kernel_rfl)) (by decide) (by decide)
    obtain ⟨b, n, k8, hmap⟩ : ∃ b n, slot fr 8 = .map (some b) ∧ MapI Try.prog 3 w b n ruleV := known_in hK 8 (by kernel_rfl)
    clear hK
    have hl := hmap.look_ok (T := 69) Try.underlying3 Try.underlying69 (zero_rule w) hki.1 hki.2
    rw [HGD.out, HSM.out] at hl
    unfold slot at k8 k10
    clear hmap
    go_simp
  · refine owedO_val (.tuple #[ragg r, .bool kn]) rfl rfl (by decide) (by kernel_rfl) GM_grew (fun _ => GM_of (by decide) (by decide)) fun fr w hb hK => ?_
    have k11 : slot fr 11 = .tuple #[ragg r, .bool kn] := GM_val (known_in hK 11 (by kernel_rfl)) (by decide) (by decide)
    clear hK
    unfold slot at k11
    go_simp
  · refine owedO_val (ragg r) rfl rfl (by decide) (by kernel_rfl) GM_grew (fun _ => GM_of (by decide) (by decide)) fun fr w hb hK => ?_
    have k7 : slot fr 7 = .tuple #[ragg r, .bool kn] := GM_val (known_in hK 7 (by kernel_rfl)) (by decide) (by decide)
    clear hK
    unfold slot at k7
    go_simp
  · refine owedO_quiet (.bool kn) rfl rfl (by decide) (by decide) (fun _ => GM_of (by decide) (by decide)) fun fr w hb hK => ?_
    have k7 : slot fr 7 = .tuple #[ragg r, .bool kn] := GM_val (known_in hK 7 (by kernel_rfl)) (by decide) (by decide)
    clear hK
    unfold slot at k7
    go_simp
  · refine owedO_ahead rfl rfl (by decide) (by kernel_rfl) GM_grew fun fr w hb hK K hk => ?_
    clear hK
    go_simp
    exact hk _ _ ((Below.refl _ _).alloc (Nat.le_refl _) _) ⟨w.heap.size, noRule, rfl, (below_drew hb).size, Blk.new _ _ _⟩
  · refine owedO_store rfl rfl rfl fun fr w hb hK => ?_
    have k12 : slot fr 12 = ragg r := GM_val (known_in hK 12 (by kernel_rfl)) (by decide) (by decide)
    obtain ⟨g, r', k5, hgB, hblk⟩ : ∃ g r', slot fr 5 = .pointer (some ⟨g, 0, none⟩) ∧ w0.heap.size ≤ g ∧ Blk w g 68 (rblk r') := known_in hK 5 (by kernel_rfl)
    clear hK
    have hrun := run_store_row (P := Try.prog) hblk 68 (rblk r) (by kernel_rfl) rfl (rblk_one r)
    refine ⟨g, w.setRow g (rblk r), k5, hgB, ?_, (hblk.row (rblk r)).1, (hblk.row (rblk r)).2, fun t u => GM_store t u w hblk⟩
    exact exec_store rfl k5 k12 hrun
  · refine owedO_quiet (.bool kn) rfl rfl (by decide) (by decide) (fun _ => GM_of (by decide) (by decide)) fun fr w hb hK => ?_
    have k13 : slot fr 13 = .bool kn := GM_val (known_in hK 13 (by kernel_rfl)) (by decide) (by decide)
    clear hK
    unfold slot at k13
    go_simp
  · intro vs w1 g hx hsl hg hblk hgood
    have h6 : vs 6 = .bool kn := GM_val (hgood _ (List.mem_of_getElem? (i := 9) rfl) 6 rfl) (by decide) (by decide)
    have h5 : vs 5 = .pointer (some ⟨g, 0, none⟩) := (puts_in (n := 32) rfl (by kernel_rfl)).symm.trans hsl
    have hbw1 := hb0.trans (hx.mono hb0.size)
    have HK1 := Lib.hid (HKB.out.below hx hs0)
    have HRB := Lib.hid hblk
    have HD1 := Lib.hid ((HD.out.below hx).more hx.size)
    simp only [putsOf]
    rw [h5, h6]
    clear hgood hsl h5 h6 hblk HK HD HKB hg hx
    obtain ⟨k0, k1, k2, k3, k4, k5, k6, k7⟩ := cblk_cells HK1.out
    obtain ⟨r0, r1, r2, r3, r4, r5, r6, r7, r8, r9, r10, r11, r12, r13, r14⟩ := rblk_cells HRB.out
    go_simp
    have hRR := HR.out
    rw [HRR.out] at hRR
    cases hv : inR v 1 3 with
    | false =>
      obtain rfl : R = 1 := by rw [← hRR, if_pos (.inl hv)]
      clear hRR
      go_wp2_with (go_at_call 43; refine (version_any v _).mono ?_; rintro _ _ ⟨rfl, rfl⟩; rw [hv])
      go_ret
      exact ⟨rfl, hbw1⟩
    | true =>
      have hk := HKN.out
      cases kn with
      | false =>
        have hno : rule? c.kind = none := by
          cases hq : rule? c.kind with
          | none => rfl
          | some q => rw [hq] at hk; cases hk
        obtain rfl : R = 1 := by rw [← hRR, if_pos (.inr hno)]
        clear hRR hk hno
        go_wp2_with (go_at_call 43; refine (version_any v _).mono ?_; rintro _ _ ⟨rfl, rfl⟩; rw [hv])
        go_ret
        exact ⟨rfl, hbw1⟩
      | true =>
        have hyes : rule? c.kind ≠ none := by
          intro hq
          rw [hq] at hk
          cases hk
        rw [if_neg (by rw [hv]; simp [hyes]), ← HRN.out] at hRR
        have HR2 := Lib.hid hRR
        clear hRR hk hyes
        by_cases hnv : v < r.need
        · obtain rfl : R = 10 := by rw [← HR2.out, if_pos hnv]
          go_wp2_with (go_at_call 43; refine (version_any v _).mono ?_; rintro _ _ ⟨rfl, rfl⟩; rw [hv])
          go_ret
          exact ⟨rfl, hbw1⟩
        · have hRR := HR2.out
          rw [if_neg hnv] at hRR
          have HR3 := Lib.hid hRR
          clear hRR
          go_wp2_with (first
            | (go_at_call 43; refine (version_any v _).mono ?_; rintro _ _ ⟨rfl, rfl⟩; rw [hv])
            | fail)
          refine (fits_any r c s w1 HD1.out HCO.out).mono ?_
          rintro _ w2 ⟨rfl, hx2⟩
          have hbw2 := hbw1.trans (hx2.mono hbw1.size)
          obtain ⟨F, hF⟩ : ∃ F, r.fits c = F := ⟨_, rfl⟩
          have hRR := HR3.out
          rw [hF] at hRR ⊢
          cases F with
          | true =>
            obtain rfl : R = 0 := by rw [← hRR]; rfl
            clear hRR
            go_wp2
            go_ret
            exact ⟨rfl, hbw2⟩
          | false =>
            obtain rfl : R = 1 := by rw [← hRR]; rfl
            clear hRR
            go_wp2
            go_ret
            exact ⟨rfl, hbw2⟩
end Go.Proofs.Ytkagonijkalicaa
