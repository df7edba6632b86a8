/-
  The walk of the landed command's rules: a map of the rule of each kind.
-/
import Derived.Test.YtkagonijkalicaaMgA
import Derived.Test.YtkagonijkalicaaMgE
import Derived.Test.YtkagonijkalicaaMgJ
set_option linter.unusedVariables false
set_option linter.unusedSimpArgs false
namespace Go.Proofs.Ytkagonijkalicaa
open Go.RowKit
open Cm (Cmd inR need Rule Span rule? noRule)

def span (s : Span) : Value := .agg #[.int .i64 s.a, .int .i64 s.b]
def rblk (r : Rule) : Array Value := #[.int .i64 r.need, .int .i64 r.client.a, .int .i64 r.client.b, .int .i64 r.seq.a, .int .i64 r.seq.b, .int .i64 r.set.a, .int .i64 r.set.b, .int .i64 r.id.a, .int .i64 r.id.b, .int .i64 r.n.a, .int .i64 r.n.b, .int .i64 r.chunks.a, .int .i64 r.chunks.b, .int .i64 r.text.a, .int .i64 r.text.b]
def ragg (r : Rule) : Value := .agg (rblk r)
/-- The rules by their kinds. -/
def ruleV (k : Int) : Option Value := (rule? k).map ragg

set_option maxRecDepth 100000 in
theorem rowlen_any (w : World) : Calls Try.prog 32 #[] w fun e w' => e = .returned (.agg #[.int .i64 1, .int .i64 8]) ∧ Below w.heap.size w w' := by
  go_enter Try.func32, Try.ntmps32
  go_wp2
  refine bodyPost_ret (results_cell_row rfl _ _ w.heap.size 59 #[.int .i64 1, .int .i64 8] (0, 0) _ rfl (heap_alloc_new w _) Try.underlying59 rfl (by kernel_rfl)) rfl ?_
  exact ⟨rfl, (Below.refl _ _).alloc (Nat.le_refl _) _⟩

def insR : Ins := [(3, 1, .agg #[.int .i64 1, .int .i64 1, .int .i64 8, .int .i64 0, .int .i64 0, .int .i64 0, .int .i64 0, .int .i64 0, .int .i64 0, .int .i64 0, .int .i64 0, .int .i64 0, .int .i64 0, .int .i64 0, .int .i64 0]), (8, 2, .agg #[.int .i64 1, .int .i64 1, .int .i64 8, .int .i64 1, .int .i64 1048576, .int .i64 1, .int .i64 8, .int .i64 0, .int .i64 0, .int .i64 0, .int .i64 0, .int .i64 0, .int .i64 0, .int .i64 0, .int .i64 0]), (14, 3, .agg #[.int .i64 1, .int .i64 1, .int .i64 8, .int .i64 1, .int .i64 1048576, .int .i64 1, .int .i64 8, .int .i64 0, .int .i64 0, .int .i64 0, .int .i64 0, .int .i64 1, .int .i64 8, .int .i64 0, .int .i64 0]), (19, 4, .agg #[.int .i64 1, .int .i64 1, .int .i64 8, .int .i64 1, .int .i64 1048576, .int .i64 1, .int .i64 8, .int .i64 0, .int .i64 0, .int .i64 0, .int .i64 0, .int .i64 0, .int .i64 0, .int .i64 0, .int .i64 0]), (24, 5, .agg #[.int .i64 1, .int .i64 1, .int .i64 8, .int .i64 1, .int .i64 1048576, .int .i64 0, .int .i64 0, .int .i64 1, .int .i64 1048576, .int .i64 0, .int .i64 0, .int .i64 0, .int .i64 0, .int .i64 0, .int .i64 0]), (29, 6, .agg #[.int .i64 1, .int .i64 1, .int .i64 8, .int .i64 1, .int .i64 1048576, .int .i64 0, .int .i64 0, .int .i64 0, .int .i64 0, .int .i64 0, .int .i64 8, .int .i64 0, .int .i64 0, .int .i64 0, .int .i64 0]), (34, 7, .agg #[.int .i64 1, .int .i64 1, .int .i64 8, .int .i64 1, .int .i64 1048576, .int .i64 0, .int .i64 0, .int .i64 1, .int .i64 1048576, .int .i64 0, .int .i64 0, .int .i64 0, .int .i64 0, .int .i64 0, .int .i64 0]), (37, 8, .agg #[.int .i64 1, .int .i64 0, .int .i64 0, .int .i64 0, .int .i64 0, .int .i64 0, .int .i64 0, .int .i64 0, .int .i64 0, .int .i64 2, .int .i64 3, .int .i64 0, .int .i64 0, .int .i64 0, .int .i64 0]), (42, 9, .agg #[.int .i64 2, .int .i64 1, .int .i64 8, .int .i64 1, .int .i64 1048576, .int .i64 0, .int .i64 0, .int .i64 1, .int .i64 1048576, .int .i64 0, .int .i64 0, .int .i64 0, .int .i64 0, .int .i64 0, .int .i64 0]), (47, 10, .agg #[.int .i64 2, .int .i64 1, .int .i64 8, .int .i64 1, .int .i64 1048576, .int .i64 0, .int .i64 0, .int .i64 1, .int .i64 1048576, .int .i64 0, .int .i64 0, .int .i64 0, .int .i64 0, .int .i64 0, .int .i64 0]), (53, 11, .agg #[.int .i64 3, .int .i64 1, .int .i64 8, .int .i64 1, .int .i64 1048576, .int .i64 0, .int .i64 0, .int .i64 1, .int .i64 1048576, .int .i64 0, .int .i64 0, .int .i64 0, .int .i64 0, .int .i64 0, .int .i64 16]), (58, 12, .agg #[.int .i64 3, .int .i64 1, .int .i64 8, .int .i64 1, .int .i64 1048576, .int .i64 0, .int .i64 0, .int .i64 0, .int .i64 0, .int .i64 0, .int .i64 64, .int .i64 0, .int .i64 0, .int .i64 0, .int .i64 0])]
theorem full_ins : full insR = ruleV := by
  funext k
  unfold insR ruleV rule?
  simp only [full]
  by_cases h : 1 ≤ k ∧ k ≤ 12
  · obtain ⟨j, rfl⟩ : ∃ j : Nat, k = (j : Int) := ⟨k.toNat, by omega⟩
    have hj : j ≤ 12 := by omega
    have h1 : 1 ≤ j := by omega
    have : j = 1 ∨ j = 2 ∨ j = 3 ∨ j = 4 ∨ j = 5 ∨ j = 6 ∨ j = 7 ∨ j = 8 ∨ j = 9 ∨ j = 10 ∨ j = 11 ∨ j = 12 := by omega
    rcases this with rfl | rfl | rfl | rfl | rfl | rfl | rfl | rfl | rfl | rfl | rfl | rfl <;> rfl
  · repeat rw [if_neg (by omega)]
    rfl

set_option maxHeartbeats 4000000 in
set_option maxRecDepth 100000 in
theorem rules_any (w : World) : Calls Try.prog 41 #[] w fun e w' => ∃ b n, e = .returned (.map (some b)) ∧ n ≤ 1000 ∧ w.heap.size ≤ b ∧ MapI Try.prog 3 w' b n ruleV ∧ Below w.heap.size w w' := by
  obtain ⟨b0, hb0⟩ : ∃ b0, b0 = w.heap.size := ⟨_, rfl⟩
  obtain ⟨w4, hw4⟩ : ∃ w4 : World, w4 = (((w.alloc (.cells #[.int .i64 1, .int .i64 8] 59)).alloc (.cells #[.int .i64 1, .int .i64 1048576] 59)).alloc (.cells #[.int .i64 1, .int .i64 8] 59)).alloc (.cells #[.int .i64 1, .int .i64 1048576] 59) := ⟨_, rfl⟩
  go_enter Try.func41, Try.ntmps41
  go_upto_region 5 with fail
  rw [← hw4]
  have h1 : Blk w4 b0 59 #[.int .i64 1, .int .i64 8] := by rw [hw4, hb0]; exact (((Blk.new _ _ _).alloc _).alloc _).alloc _
  have h2 : Blk w4 (b0 + 1) 59 #[.int .i64 1, .int .i64 1048576] := by rw [hw4, hb0]; simpa using ((Blk.new (w.alloc _) _ _).alloc _).alloc _
  have h3 : Blk w4 (b0 + 2) 59 #[.int .i64 1, .int .i64 8] := by rw [hw4, hb0]; simpa using (Blk.new ((w.alloc _).alloc _) _ _).alloc _
  have h4 : Blk w4 (b0 + 3) 59 #[.int .i64 1, .int .i64 1048576] := by rw [hw4, hb0]; simpa using Blk.new (((w.alloc _).alloc _).alloc _) _ _
  have hbw4 : Below w.heap.size w w4 := by rw [hw4]; exact ((((Below.refl _ _).alloc (Nat.le_refl _) _).alloc (by simp) _).alloc (by simp; omega) _).alloc (by simp; omega) _
  have hl1 := h1.lt
  have hl2 := h2.lt
  have hl3 := h3.lt
  have hl4 := h4.lt
  have H1 := Lib.hid h1
  have H2 := Lib.hid h2
  have H3 := Lib.hid h3
  have H4 := Lib.hid h4
  have HW := Lib.hid hw4
  have hsz4 := hbw4.size
  have nd1 : (insR.map (·.1)).Nodup := by decide
  have nd2 : (insR.map (·.2.1)).Nodup := by decide
  rw [← hb0]
  have HB0 := Lib.hid hb0
  clear h1 h2 h3 h4 hw4 hb0
  refine wp_region_fill (n := 57) [9, 56, 0] (pickV [(10, .agg #[.int .i64 1, .int .i64 8]), (11, .agg #[.int .i64 1, .int .i64 1, .int .i64 8, .int .i64 0, .int .i64 0, .int .i64 0, .int .i64 0, .int .i64 0, .int .i64 0, .int .i64 0, .int .i64 0, .int .i64 0, .int .i64 0, .int .i64 0, .int .i64 0]), (12, .agg #[.int .i64 1, .int .i64 8]), (13, .agg #[.int .i64 1, .int .i64 1048576]), (14, .agg #[.int .i64 1, .int .i64 8]), (15, .agg #[.int .i64 1, .int .i64 1, .int .i64 8, .int .i64 1, .int .i64 1048576, .int .i64 1, .int .i64 8, .int .i64 0, .int .i64 0, .int .i64 0, .int .i64 0, .int .i64 0, .int .i64 0, .int .i64 0, .int .i64 0]), (16, .agg #[.int .i64 1, .int .i64 8]), (17, .agg #[.int .i64 1, .int .i64 1048576]), (18, .agg #[.int .i64 1, .int .i64 8]), (19, .agg #[.int .i64 1, .int .i64 8]), (20, .agg #[.int .i64 1, .int .i64 1, .int .i64 8, .int .i64 1, .int .i64 1048576, .int .i64 1, .int .i64 8, .int .i64 0, .int .i64 0, .int .i64 0, .int .i64 0, .int .i64 1, .int .i64 8, .int .i64 0, .int .i64 0]), (21, .agg #[.int .i64 1, .int .i64 8]), (22, .agg #[.int .i64 1, .int .i64 1048576]), (23, .agg #[.int .i64 1, .int .i64 8]), (24, .agg #[.int .i64 1, .int .i64 1, .int .i64 8, .int .i64 1, .int .i64 1048576, .int .i64 1, .int .i64 8, .int .i64 0, .int .i64 0, .int .i64 0, .int .i64 0, .int .i64 0, .int .i64 0, .int .i64 0, .int .i64 0]), (25, .agg #[.int .i64 1, .int .i64 8]), (26, .agg #[.int .i64 1, .int .i64 1048576]), (27, .agg #[.int .i64 1, .int .i64 1048576]), (28, .agg #[.int .i64 1, .int .i64 1, .int .i64 8, .int .i64 1, .int .i64 1048576, .int .i64 0, .int .i64 0, .int .i64 1, .int .i64 1048576, .int .i64 0, .int .i64 0, .int .i64 0, .int .i64 0, .int .i64 0, .int .i64 0]), (29, .agg #[.int .i64 1, .int .i64 8]), (30, .agg #[.int .i64 1, .int .i64 1048576]), (31, .agg #[.int .i64 0, .int .i64 8]), (32, .agg #[.int .i64 1, .int .i64 1, .int .i64 8, .int .i64 1, .int .i64 1048576, .int .i64 0, .int .i64 0, .int .i64 0, .int .i64 0, .int .i64 0, .int .i64 8, .int .i64 0, .int .i64 0, .int .i64 0, .int .i64 0]), (33, .agg #[.int .i64 1, .int .i64 8]), (34, .agg #[.int .i64 1, .int .i64 1048576]), (35, .agg #[.int .i64 1, .int .i64 1048576]), (36, .agg #[.int .i64 1, .int .i64 1, .int .i64 8, .int .i64 1, .int .i64 1048576, .int .i64 0, .int .i64 0, .int .i64 1, .int .i64 1048576, .int .i64 0, .int .i64 0, .int .i64 0, .int .i64 0, .int .i64 0, .int .i64 0]), (37, .agg #[.int .i64 2, .int .i64 3]), (38, .agg #[.int .i64 1, .int .i64 0, .int .i64 0, .int .i64 0, .int .i64 0, .int .i64 0, .int .i64 0, .int .i64 0, .int .i64 0, .int .i64 2, .int .i64 3, .int .i64 0, .int .i64 0, .int .i64 0, .int .i64 0]), (39, .agg #[.int .i64 1, .int .i64 8]), (40, .agg #[.int .i64 1, .int .i64 1048576]), (41, .agg #[.int .i64 1, .int .i64 1048576]), (42, .agg #[.int .i64 2, .int .i64 1, .int .i64 8, .int .i64 1, .int .i64 1048576, .int .i64 0, .int .i64 0, .int .i64 1, .int .i64 1048576, .int .i64 0, .int .i64 0, .int .i64 0, .int .i64 0, .int .i64 0, .int .i64 0]), (43, .agg #[.int .i64 1, .int .i64 8]), (44, .agg #[.int .i64 1, .int .i64 1048576]), (45, .agg #[.int .i64 1, .int .i64 1048576]), (46, .agg #[.int .i64 2, .int .i64 1, .int .i64 8, .int .i64 1, .int .i64 1048576, .int .i64 0, .int .i64 0, .int .i64 1, .int .i64 1048576, .int .i64 0, .int .i64 0, .int .i64 0, .int .i64 0, .int .i64 0, .int .i64 0]), (47, .agg #[.int .i64 1, .int .i64 8]), (48, .agg #[.int .i64 1, .int .i64 1048576]), (49, .agg #[.int .i64 1, .int .i64 1048576]), (50, .agg #[.int .i64 0, .int .i64 16]), (51, .agg #[.int .i64 3, .int .i64 1, .int .i64 8, .int .i64 1, .int .i64 1048576, .int .i64 0, .int .i64 0, .int .i64 1, .int .i64 1048576, .int .i64 0, .int .i64 0, .int .i64 0, .int .i64 0, .int .i64 0, .int .i64 16]), (52, .agg #[.int .i64 1, .int .i64 8]), (53, .agg #[.int .i64 1, .int .i64 1048576]), (54, .agg #[.int .i64 0, .int .i64 64]), (55, .agg #[.int .i64 3, .int .i64 1, .int .i64 8, .int .i64 1, .int .i64 1048576, .int .i64 0, .int .i64 0, .int .i64 0, .int .i64 0, .int .i64 0, .int .i64 64, .int .i64 0, .int .i64 0, .int .i64 0, .int .i64 0])]) 3 0 9 [(59, 56), (60, 0)] insR (by kernel_rfl) (by kernel_rfl) rfl (by decide) ⟨?_, ?_, ?_, ?_, ?_, ?_, ?_, ?_, ?_, ?_, ?_, ?_, ?_, ?_, ?_, ?_, ?_, ?_, ?_, ?_, ?_, ?_, ?_, ?_, ?_, ?_, ?_, ?_, ?_, ?_, ?_, ?_, ?_, ?_, ?_, ?_, ?_, ?_, ?_, ?_, ?_, ?_, ?_, ?_, ?_, ?_, ?_, ?_, ?_, ?_, ?_, ?_, ?_, ?_, ?_, ?_, ?_, ?_, ?_, ?_, ?_, trivial⟩ ?_
  · exact owedF_make rfl rfl rfl (of_decide_eq_true (by kernel_rfl)) (by decide) rfl
  · refine owedF_val (.agg #[.int .i64 1, .int .i64 8]) rfl rfl (by decide) rfl fun fr w hb hK => ?_
    replace hb := below_drew hb
    have k1 : slot fr 1 = .pointer (some ⟨b0, 0, none⟩) := (known_out hK 1 (by kernel_rfl)).trans rfl
    clear hK
    unfold slot at k1
    have x0 := (H1.out.below hb hl1).cell 0
    have x1 := (H1.out.below hb hl1).cell 1
    simp at x0 x1
    go_simp
  · refine owedF_val (.agg #[.int .i64 1, .int .i64 1, .int .i64 8, .int .i64 0, .int .i64 0, .int .i64 0, .int .i64 0, .int .i64 0, .int .i64 0, .int .i64 0, .int .i64 0, .int .i64 0, .int .i64 0, .int .i64 0, .int .i64 0]) rfl rfl (by decide) rfl fun fr w hb hK => ?_
    have k10 : slot fr 10 = .agg #[.int .i64 1, .int .i64 8] := knownV hK 10 (by kernel_rfl) rfl
    clear hK
    unfold slot at k10
    go_simp
  · exact owedF_insert rfl rfl rfl (by kernel_rfl) (by decide) nd1 nd2 (by unfold insR; simp only [List.mem_cons]; exact .inl rfl) (by kernel_rfl) rfl Try.underlying3 Try.underlying69 rfl (by decide)
  · refine owedF_val (.agg #[.int .i64 1, .int .i64 8]) rfl rfl (by decide) rfl fun fr w hb hK => ?_
    replace hb := below_drew hb
    have k1 : slot fr 1 = .pointer (some ⟨b0, 0, none⟩) := (known_out hK 1 (by kernel_rfl)).trans rfl
    clear hK
    unfold slot at k1
    have x0 := (H1.out.below hb hl1).cell 0
    have x1 := (H1.out.below hb hl1).cell 1
    simp at x0 x1
    go_simp
  · refine owedF_val (.agg #[.int .i64 1, .int .i64 1048576]) rfl rfl (by decide) rfl fun fr w hb hK => ?_
    replace hb := below_drew hb
    have k2 : slot fr 2 = .pointer (some ⟨b0 + 1, 0, none⟩) := (known_out hK 2 (by kernel_rfl)).trans rfl
    clear hK
    unfold slot at k2
    have x0 := (H2.out.below hb hl2).cell 0
    have x1 := (H2.out.below hb hl2).cell 1
    simp at x0 x1
    go_simp
  · refine owedF_val (.agg #[.int .i64 1, .int .i64 8]) rfl rfl (by decide) rfl fun fr w hb hK => ?_
    replace hb := below_drew hb
    have k3 : slot fr 3 = .pointer (some ⟨b0 + 2, 0, none⟩) := (known_out hK 3 (by kernel_rfl)).trans rfl
    clear hK
    unfold slot at k3
    have x0 := (H3.out.below hb hl3).cell 0
    have x1 := (H3.out.below hb hl3).cell 1
    simp at x0 x1
    go_simp
  · refine owedF_val (.agg #[.int .i64 1, .int .i64 1, .int .i64 8, .int .i64 1, .int .i64 1048576, .int .i64 1, .int .i64 8, .int .i64 0, .int .i64 0, .int .i64 0, .int .i64 0, .int .i64 0, .int .i64 0, .int .i64 0, .int .i64 0]) rfl rfl (by decide) rfl fun fr w hb hK => ?_
    have k12 : slot fr 12 = .agg #[.int .i64 1, .int .i64 8] := knownV hK 12 (by kernel_rfl) rfl
    have k13 : slot fr 13 = .agg #[.int .i64 1, .int .i64 1048576] := knownV hK 13 (by kernel_rfl) rfl
    have k14 : slot fr 14 = .agg #[.int .i64 1, .int .i64 8] := knownV hK 14 (by kernel_rfl) rfl
    clear hK
    unfold slot at k12 k13 k14
    go_simp
  · exact owedF_insert rfl rfl rfl (by kernel_rfl) (by decide) nd1 nd2 (by unfold insR; simp only [List.mem_cons]; exact .inr (.inl rfl)) (by kernel_rfl) rfl Try.underlying3 Try.underlying69 rfl (by decide)
  · refine owedF_val (.agg #[.int .i64 1, .int .i64 8]) rfl rfl (by decide) rfl fun fr w hb hK => ?_
    replace hb := below_drew hb
    have k1 : slot fr 1 = .pointer (some ⟨b0, 0, none⟩) := (known_out hK 1 (by kernel_rfl)).trans rfl
    clear hK
    unfold slot at k1
    have x0 := (H1.out.below hb hl1).cell 0
    have x1 := (H1.out.below hb hl1).cell 1
    simp at x0 x1
    go_simp
  · refine owedF_val (.agg #[.int .i64 1, .int .i64 1048576]) rfl rfl (by decide) rfl fun fr w hb hK => ?_
    replace hb := below_drew hb
    have k2 : slot fr 2 = .pointer (some ⟨b0 + 1, 0, none⟩) := (known_out hK 2 (by kernel_rfl)).trans rfl
    clear hK
    unfold slot at k2
    have x0 := (H2.out.below hb hl2).cell 0
    have x1 := (H2.out.below hb hl2).cell 1
    simp at x0 x1
    go_simp
  · refine owedF_val (.agg #[.int .i64 1, .int .i64 8]) rfl rfl (by decide) rfl fun fr w hb hK => ?_
    replace hb := below_drew hb
    have k3 : slot fr 3 = .pointer (some ⟨b0 + 2, 0, none⟩) := (known_out hK 3 (by kernel_rfl)).trans rfl
    clear hK
    unfold slot at k3
    have x0 := (H3.out.below hb hl3).cell 0
    have x1 := (H3.out.below hb hl3).cell 1
    simp at x0 x1
    go_simp
  · refine owedF_plain rfl rfl (by decide) fun fr w hb hK K hk => ?_
    clear hK
    go_simp
    refine (rowlen_any w).mono ?_
    rintro e w' ⟨rfl, hx⟩
    exact hk _ _ hx (fun _ => rfl)
  · refine owedF_val (.agg #[.int .i64 1, .int .i64 1, .int .i64 8, .int .i64 1, .int .i64 1048576, .int .i64 1, .int .i64 8, .int .i64 0, .int .i64 0, .int .i64 0, .int .i64 0, .int .i64 1, .int .i64 8, .int .i64 0, .int .i64 0]) rfl rfl (by decide) rfl fun fr w hb hK => ?_
    have k16 : slot fr 16 = .agg #[.int .i64 1, .int .i64 8] := knownV hK 16 (by kernel_rfl) rfl
    have k17 : slot fr 17 = .agg #[.int .i64 1, .int .i64 1048576] := knownV hK 17 (by kernel_rfl) rfl
    have k18 : slot fr 18 = .agg #[.int .i64 1, .int .i64 8] := knownV hK 18 (by kernel_rfl) rfl
    have k19 : slot fr 19 = .agg #[.int .i64 1, .int .i64 8] := knownV hK 19 (by kernel_rfl) rfl
    clear hK
    unfold slot at k16 k17 k18 k19
    go_simp
  · exact owedF_insert rfl rfl rfl (by kernel_rfl) (by decide) nd1 nd2 (by unfold insR; simp only [List.mem_cons]; exact .inr (.inr (.inl rfl))) (by kernel_rfl) rfl Try.underlying3 Try.underlying69 rfl (by decide)
  · refine owedF_val (.agg #[.int .i64 1, .int .i64 8]) rfl rfl (by decide) rfl fun fr w hb hK => ?_
    replace hb := below_drew hb
    have k1 : slot fr 1 = .pointer (some ⟨b0, 0, none⟩) := (known_out hK 1 (by kernel_rfl)).trans rfl
    clear hK
    unfold slot at k1
    have x0 := (H1.out.below hb hl1).cell 0
    have x1 := (H1.out.below hb hl1).cell 1
    simp at x0 x1
    go_simp
  · refine owedF_val (.agg #[.int .i64 1, .int .i64 1048576]) rfl rfl (by decide) rfl fun fr w hb hK => ?_
    replace hb := below_drew hb
    have k2 : slot fr 2 = .pointer (some ⟨b0 + 1, 0, none⟩) := (known_out hK 2 (by kernel_rfl)).trans rfl
    clear hK
    unfold slot at k2
    have x0 := (H2.out.below hb hl2).cell 0
    have x1 := (H2.out.below hb hl2).cell 1
    simp at x0 x1
    go_simp
  · refine owedF_val (.agg #[.int .i64 1, .int .i64 8]) rfl rfl (by decide) rfl fun fr w hb hK => ?_
    replace hb := below_drew hb
    have k3 : slot fr 3 = .pointer (some ⟨b0 + 2, 0, none⟩) := (known_out hK 3 (by kernel_rfl)).trans rfl
    clear hK
    unfold slot at k3
    have x0 := (H3.out.below hb hl3).cell 0
    have x1 := (H3.out.below hb hl3).cell 1
    simp at x0 x1
    go_simp
  · refine owedF_val (.agg #[.int .i64 1, .int .i64 1, .int .i64 8, .int .i64 1, .int .i64 1048576, .int .i64 1, .int .i64 8, .int .i64 0, .int .i64 0, .int .i64 0, .int .i64 0, .int .i64 0, .int .i64 0, .int .i64 0, .int .i64 0]) rfl rfl (by decide) rfl fun fr w hb hK => ?_
    have k21 : slot fr 21 = .agg #[.int .i64 1, .int .i64 8] := knownV hK 21 (by kernel_rfl) rfl
    have k22 : slot fr 22 = .agg #[.int .i64 1, .int .i64 1048576] := knownV hK 22 (by kernel_rfl) rfl
    have k23 : slot fr 23 = .agg #[.int .i64 1, .int .i64 8] := knownV hK 23 (by kernel_rfl) rfl
    clear hK
    unfold slot at k21 k22 k23
    go_simp
  · exact owedF_insert rfl rfl rfl (by kernel_rfl) (by decide) nd1 nd2 (by unfold insR; simp only [List.mem_cons]; exact .inr (.inr (.inr (.inl rfl)))) (by kernel_rfl) rfl Try.underlying3 Try.underlying69 rfl (by decide)
  · refine owedF_val (.agg #[.int .i64 1, .int .i64 8]) rfl rfl (by decide) rfl fun fr w hb hK => ?_
    replace hb := below_drew hb
    have k1 : slot fr 1 = .pointer (some ⟨b0, 0, none⟩) := (known_out hK 1 (by kernel_rfl)).trans rfl
    clear hK
    unfold slot at k1
    have x0 := (H1.out.below hb hl1).cell 0
    have x1 := (H1.out.below hb hl1).cell 1
    simp at x0 x1
    go_simp
  · refine owedF_val (.agg #[.int .i64 1, .int .i64 1048576]) rfl rfl (by decide) rfl fun fr w hb hK => ?_
    replace hb := below_drew hb
    have k2 : slot fr 2 = .pointer (some ⟨b0 + 1, 0, none⟩) := (known_out hK 2 (by kernel_rfl)).trans rfl
    clear hK
    unfold slot at k2
    have x0 := (H2.out.below hb hl2).cell 0
    have x1 := (H2.out.below hb hl2).cell 1
    simp at x0 x1
    go_simp
  · refine owedF_val (.agg #[.int .i64 1, .int .i64 1048576]) rfl rfl (by decide) rfl fun fr w hb hK => ?_
    replace hb := below_drew hb
    have k4 : slot fr 4 = .pointer (some ⟨b0 + 3, 0, none⟩) := (known_out hK 4 (by kernel_rfl)).trans rfl
    clear hK
    unfold slot at k4
    have x0 := (H4.out.below hb hl4).cell 0
    have x1 := (H4.out.below hb hl4).cell 1
    simp at x0 x1
    go_simp
  · refine owedF_val (.agg #[.int .i64 1, .int .i64 1, .int .i64 8, .int .i64 1, .int .i64 1048576, .int .i64 0, .int .i64 0, .int .i64 1, .int .i64 1048576, .int .i64 0, .int .i64 0, .int .i64 0, .int .i64 0, .int .i64 0, .int .i64 0]) rfl rfl (by decide) rfl fun fr w hb hK => ?_
    have k25 : slot fr 25 = .agg #[.int .i64 1, .int .i64 8] := knownV hK 25 (by kernel_rfl) rfl
    have k26 : slot fr 26 = .agg #[.int .i64 1, .int .i64 1048576] := knownV hK 26 (by kernel_rfl) rfl
    have k27 : slot fr 27 = .agg #[.int .i64 1, .int .i64 1048576] := knownV hK 27 (by kernel_rfl) rfl
    clear hK
    unfold slot at k25 k26 k27
    go_simp
  · exact owedF_insert rfl rfl rfl (by kernel_rfl) (by decide) nd1 nd2 (by unfold insR; simp only [List.mem_cons]; exact .inr (.inr (.inr (.inr (.inl rfl))))) (by kernel_rfl) rfl Try.underlying3 Try.underlying69 rfl (by decide)
  · refine owedF_val (.agg #[.int .i64 1, .int .i64 8]) rfl rfl (by decide) rfl fun fr w hb hK => ?_
    replace hb := below_drew hb
    have k1 : slot fr 1 = .pointer (some ⟨b0, 0, none⟩) := (known_out hK 1 (by kernel_rfl)).trans rfl
    clear hK
    unfold slot at k1
    have x0 := (H1.out.below hb hl1).cell 0
    have x1 := (H1.out.below hb hl1).cell 1
    simp at x0 x1
    go_simp
  · refine owedF_val (.agg #[.int .i64 1, .int .i64 1048576]) rfl rfl (by decide) rfl fun fr w hb hK => ?_
    replace hb := below_drew hb
    have k2 : slot fr 2 = .pointer (some ⟨b0 + 1, 0, none⟩) := (known_out hK 2 (by kernel_rfl)).trans rfl
    clear hK
    unfold slot at k2
    have x0 := (H2.out.below hb hl2).cell 0
    have x1 := (H2.out.below hb hl2).cell 1
    simp at x0 x1
    go_simp
  · refine owedF_val (.agg #[.int .i64 0, .int .i64 8]) rfl rfl (by decide) rfl fun fr w hb hK => ?_
    clear hK
    go_simp
  · refine owedF_val (.agg #[.int .i64 1, .int .i64 1, .int .i64 8, .int .i64 1, .int .i64 1048576, .int .i64 0, .int .i64 0, .int .i64 0, .int .i64 0, .int .i64 0, .int .i64 8, .int .i64 0, .int .i64 0, .int .i64 0, .int .i64 0]) rfl rfl (by decide) rfl fun fr w hb hK => ?_
    have k29 : slot fr 29 = .agg #[.int .i64 1, .int .i64 8] := knownV hK 29 (by kernel_rfl) rfl
    have k30 : slot fr 30 = .agg #[.int .i64 1, .int .i64 1048576] := knownV hK 30 (by kernel_rfl) rfl
    have k31 : slot fr 31 = .agg #[.int .i64 0, .int .i64 8] := knownV hK 31 (by kernel_rfl) rfl
    clear hK
    unfold slot at k29 k30 k31
    go_simp
  · exact owedF_insert rfl rfl rfl (by kernel_rfl) (by decide) nd1 nd2 (by unfold insR; simp only [List.mem_cons]; exact .inr (.inr (.inr (.inr (.inr (.inl rfl)))))) (by kernel_rfl) rfl Try.underlying3 Try.underlying69 rfl (by decide)
  · refine owedF_val (.agg #[.int .i64 1, .int .i64 8]) rfl rfl (by decide) rfl fun fr w hb hK => ?_
    replace hb := below_drew hb
    have k1 : slot fr 1 = .pointer (some ⟨b0, 0, none⟩) := (known_out hK 1 (by kernel_rfl)).trans rfl
    clear hK
    unfold slot at k1
    have x0 := (H1.out.below hb hl1).cell 0
    have x1 := (H1.out.below hb hl1).cell 1
    simp at x0 x1
    go_simp
  · refine owedF_val (.agg #[.int .i64 1, .int .i64 1048576]) rfl rfl (by decide) rfl fun fr w hb hK => ?_
    replace hb := below_drew hb
    have k2 : slot fr 2 = .pointer (some ⟨b0 + 1, 0, none⟩) := (known_out hK 2 (by kernel_rfl)).trans rfl
    clear hK
    unfold slot at k2
    have x0 := (H2.out.below hb hl2).cell 0
    have x1 := (H2.out.below hb hl2).cell 1
    simp at x0 x1
    go_simp
  · refine owedF_val (.agg #[.int .i64 1, .int .i64 1048576]) rfl rfl (by decide) rfl fun fr w hb hK => ?_
    replace hb := below_drew hb
    have k4 : slot fr 4 = .pointer (some ⟨b0 + 3, 0, none⟩) := (known_out hK 4 (by kernel_rfl)).trans rfl
    clear hK
    unfold slot at k4
    have x0 := (H4.out.below hb hl4).cell 0
    have x1 := (H4.out.below hb hl4).cell 1
    simp at x0 x1
    go_simp
  · refine owedF_val (.agg #[.int .i64 1, .int .i64 1, .int .i64 8, .int .i64 1, .int .i64 1048576, .int .i64 0, .int .i64 0, .int .i64 1, .int .i64 1048576, .int .i64 0, .int .i64 0, .int .i64 0, .int .i64 0, .int .i64 0, .int .i64 0]) rfl rfl (by decide) rfl fun fr w hb hK => ?_
    have k33 : slot fr 33 = .agg #[.int .i64 1, .int .i64 8] := knownV hK 33 (by kernel_rfl) rfl
    have k34 : slot fr 34 = .agg #[.int .i64 1, .int .i64 1048576] := knownV hK 34 (by kernel_rfl) rfl
    have k35 : slot fr 35 = .agg #[.int .i64 1, .int .i64 1048576] := knownV hK 35 (by kernel_rfl) rfl
    clear hK
    unfold slot at k33 k34 k35
    go_simp
  · exact owedF_insert rfl rfl rfl (by kernel_rfl) (by decide) nd1 nd2 (by unfold insR; simp only [List.mem_cons]; exact .inr (.inr (.inr (.inr (.inr (.inr (.inl rfl))))))) (by kernel_rfl) rfl Try.underlying3 Try.underlying69 rfl (by decide)
  · refine owedF_val (.agg #[.int .i64 2, .int .i64 3]) rfl rfl (by decide) rfl fun fr w hb hK => ?_
    clear hK
    go_simp
  · refine owedF_val (.agg #[.int .i64 1, .int .i64 0, .int .i64 0, .int .i64 0, .int .i64 0, .int .i64 0, .int .i64 0, .int .i64 0, .int .i64 0, .int .i64 2, .int .i64 3, .int .i64 0, .int .i64 0, .int .i64 0, .int .i64 0]) rfl rfl (by decide) rfl fun fr w hb hK => ?_
    have k37 : slot fr 37 = .agg #[.int .i64 2, .int .i64 3] := knownV hK 37 (by kernel_rfl) rfl
    clear hK
    unfold slot at k37
    go_simp
  · exact owedF_insert rfl rfl rfl (by kernel_rfl) (by decide) nd1 nd2 (by unfold insR; simp only [List.mem_cons]; exact .inr (.inr (.inr (.inr (.inr (.inr (.inr (.inl rfl)))))))) (by kernel_rfl) rfl Try.underlying3 Try.underlying69 rfl (by decide)
  · refine owedF_val (.agg #[.int .i64 1, .int .i64 8]) rfl rfl (by decide) rfl fun fr w hb hK => ?_
    replace hb := below_drew hb
    have k1 : slot fr 1 = .pointer (some ⟨b0, 0, none⟩) := (known_out hK 1 (by kernel_rfl)).trans rfl
    clear hK
    unfold slot at k1
    have x0 := (H1.out.below hb hl1).cell 0
    have x1 := (H1.out.below hb hl1).cell 1
    simp at x0 x1
    go_simp
  · refine owedF_val (.agg #[.int .i64 1, .int .i64 1048576]) rfl rfl (by decide) rfl fun fr w hb hK => ?_
    replace hb := below_drew hb
    have k2 : slot fr 2 = .pointer (some ⟨b0 + 1, 0, none⟩) := (known_out hK 2 (by kernel_rfl)).trans rfl
    clear hK
    unfold slot at k2
    have x0 := (H2.out.below hb hl2).cell 0
    have x1 := (H2.out.below hb hl2).cell 1
    simp at x0 x1
    go_simp
  · refine owedF_val (.agg #[.int .i64 1, .int .i64 1048576]) rfl rfl (by decide) rfl fun fr w hb hK => ?_
    replace hb := below_drew hb
    have k4 : slot fr 4 = .pointer (some ⟨b0 + 3, 0, none⟩) := (known_out hK 4 (by kernel_rfl)).trans rfl
    clear hK
    unfold slot at k4
    have x0 := (H4.out.below hb hl4).cell 0
    have x1 := (H4.out.below hb hl4).cell 1
    simp at x0 x1
    go_simp
  · refine owedF_val (.agg #[.int .i64 2, .int .i64 1, .int .i64 8, .int .i64 1, .int .i64 1048576, .int .i64 0, .int .i64 0, .int .i64 1, .int .i64 1048576, .int .i64 0, .int .i64 0, .int .i64 0, .int .i64 0, .int .i64 0, .int .i64 0]) rfl rfl (by decide) rfl fun fr w hb hK => ?_
    have k39 : slot fr 39 = .agg #[.int .i64 1, .int .i64 8] := knownV hK 39 (by kernel_rfl) rfl
    have k40 : slot fr 40 = .agg #[.int .i64 1, .int .i64 1048576] := knownV hK 40 (by kernel_rfl) rfl
    have k41 : slot fr 41 = .agg #[.int .i64 1, .int .i64 1048576] := knownV hK 41 (by kernel_rfl) rfl
    clear hK
    unfold slot at k39 k40 k41
    go_simp
  · exact owedF_insert rfl rfl rfl (by kernel_rfl) (by decide) nd1 nd2 (by unfold insR; simp only [List.mem_cons]; exact .inr (.inr (.inr (.inr (.inr (.inr (.inr (.inr (.inl rfl))))))))) (by kernel_rfl) rfl Try.underlying3 Try.underlying69 rfl (by decide)
  · refine owedF_val (.agg #[.int .i64 1, .int .i64 8]) rfl rfl (by decide) rfl fun fr w hb hK => ?_
    replace hb := below_drew hb
    have k1 : slot fr 1 = .pointer (some ⟨b0, 0, none⟩) := (known_out hK 1 (by kernel_rfl)).trans rfl
    clear hK
    unfold slot at k1
    have x0 := (H1.out.below hb hl1).cell 0
    have x1 := (H1.out.below hb hl1).cell 1
    simp at x0 x1
    go_simp
  · refine owedF_val (.agg #[.int .i64 1, .int .i64 1048576]) rfl rfl (by decide) rfl fun fr w hb hK => ?_
    replace hb := below_drew hb
    have k2 : slot fr 2 = .pointer (some ⟨b0 + 1, 0, none⟩) := (known_out hK 2 (by kernel_rfl)).trans rfl
    clear hK
    unfold slot at k2
    have x0 := (H2.out.below hb hl2).cell 0
    have x1 := (H2.out.below hb hl2).cell 1
    simp at x0 x1
    go_simp
  · refine owedF_val (.agg #[.int .i64 1, .int .i64 1048576]) rfl rfl (by decide) rfl fun fr w hb hK => ?_
    replace hb := below_drew hb
    have k4 : slot fr 4 = .pointer (some ⟨b0 + 3, 0, none⟩) := (known_out hK 4 (by kernel_rfl)).trans rfl
    clear hK
    unfold slot at k4
    have x0 := (H4.out.below hb hl4).cell 0
    have x1 := (H4.out.below hb hl4).cell 1
    simp at x0 x1
    go_simp
  · refine owedF_val (.agg #[.int .i64 2, .int .i64 1, .int .i64 8, .int .i64 1, .int .i64 1048576, .int .i64 0, .int .i64 0, .int .i64 1, .int .i64 1048576, .int .i64 0, .int .i64 0, .int .i64 0, .int .i64 0, .int .i64 0, .int .i64 0]) rfl rfl (by decide) rfl fun fr w hb hK => ?_
    have k43 : slot fr 43 = .agg #[.int .i64 1, .int .i64 8] := knownV hK 43 (by kernel_rfl) rfl
    have k44 : slot fr 44 = .agg #[.int .i64 1, .int .i64 1048576] := knownV hK 44 (by kernel_rfl) rfl
    have k45 : slot fr 45 = .agg #[.int .i64 1, .int .i64 1048576] := knownV hK 45 (by kernel_rfl) rfl
    clear hK
    unfold slot at k43 k44 k45
    go_simp
  · exact owedF_insert rfl rfl rfl (by kernel_rfl) (by decide) nd1 nd2 (by unfold insR; simp only [List.mem_cons]; exact .inr (.inr (.inr (.inr (.inr (.inr (.inr (.inr (.inr (.inl rfl)))))))))) (by kernel_rfl) rfl Try.underlying3 Try.underlying69 rfl (by decide)
  · refine owedF_val (.agg #[.int .i64 1, .int .i64 8]) rfl rfl (by decide) rfl fun fr w hb hK => ?_
    replace hb := below_drew hb
    have k1 : slot fr 1 = .pointer (some ⟨b0, 0, none⟩) := (known_out hK 1 (by kernel_rfl)).trans rfl
    clear hK
    unfold slot at k1
    have x0 := (H1.out.below hb hl1).cell 0
    have x1 := (H1.out.below hb hl1).cell 1
    simp at x0 x1
    go_simp
  · refine owedF_val (.agg #[.int .i64 1, .int .i64 1048576]) rfl rfl (by decide) rfl fun fr w hb hK => ?_
    replace hb := below_drew hb
    have k2 : slot fr 2 = .pointer (some ⟨b0 + 1, 0, none⟩) := (known_out hK 2 (by kernel_rfl)).trans rfl
    clear hK
    unfold slot at k2
    have x0 := (H2.out.below hb hl2).cell 0
    have x1 := (H2.out.below hb hl2).cell 1
    simp at x0 x1
    go_simp
  · refine owedF_val (.agg #[.int .i64 1, .int .i64 1048576]) rfl rfl (by decide) rfl fun fr w hb hK => ?_
    replace hb := below_drew hb
    have k4 : slot fr 4 = .pointer (some ⟨b0 + 3, 0, none⟩) := (known_out hK 4 (by kernel_rfl)).trans rfl
    clear hK
    unfold slot at k4
    have x0 := (H4.out.below hb hl4).cell 0
    have x1 := (H4.out.below hb hl4).cell 1
    simp at x0 x1
    go_simp
  · refine owedF_val (.agg #[.int .i64 0, .int .i64 16]) rfl rfl (by decide) rfl fun fr w hb hK => ?_
    clear hK
    go_simp
  · refine owedF_val (.agg #[.int .i64 3, .int .i64 1, .int .i64 8, .int .i64 1, .int .i64 1048576, .int .i64 0, .int .i64 0, .int .i64 1, .int .i64 1048576, .int .i64 0, .int .i64 0, .int .i64 0, .int .i64 0, .int .i64 0, .int .i64 16]) rfl rfl (by decide) rfl fun fr w hb hK => ?_
    have k47 : slot fr 47 = .agg #[.int .i64 1, .int .i64 8] := knownV hK 47 (by kernel_rfl) rfl
    have k48 : slot fr 48 = .agg #[.int .i64 1, .int .i64 1048576] := knownV hK 48 (by kernel_rfl) rfl
    have k49 : slot fr 49 = .agg #[.int .i64 1, .int .i64 1048576] := knownV hK 49 (by kernel_rfl) rfl
    have k50 : slot fr 50 = .agg #[.int .i64 0, .int .i64 16] := knownV hK 50 (by kernel_rfl) rfl
    clear hK
    unfold slot at k47 k48 k49 k50
    go_simp
  · exact owedF_insert rfl rfl rfl (by kernel_rfl) (by decide) nd1 nd2 (by unfold insR; simp only [List.mem_cons]; exact .inr (.inr (.inr (.inr (.inr (.inr (.inr (.inr (.inr (.inr (.inl rfl))))))))))) (by kernel_rfl) rfl Try.underlying3 Try.underlying69 rfl (by decide)
  · refine owedF_val (.agg #[.int .i64 1, .int .i64 8]) rfl rfl (by decide) rfl fun fr w hb hK => ?_
    replace hb := below_drew hb
    have k1 : slot fr 1 = .pointer (some ⟨b0, 0, none⟩) := (known_out hK 1 (by kernel_rfl)).trans rfl
    clear hK
    unfold slot at k1
    have x0 := (H1.out.below hb hl1).cell 0
    have x1 := (H1.out.below hb hl1).cell 1
    simp at x0 x1
    go_simp
  · refine owedF_val (.agg #[.int .i64 1, .int .i64 1048576]) rfl rfl (by decide) rfl fun fr w hb hK => ?_
    replace hb := below_drew hb
    have k2 : slot fr 2 = .pointer (some ⟨b0 + 1, 0, none⟩) := (known_out hK 2 (by kernel_rfl)).trans rfl
    clear hK
    unfold slot at k2
    have x0 := (H2.out.below hb hl2).cell 0
    have x1 := (H2.out.below hb hl2).cell 1
    simp at x0 x1
    go_simp
  · refine owedF_val (.agg #[.int .i64 0, .int .i64 64]) rfl rfl (by decide) rfl fun fr w hb hK => ?_
    clear hK
    go_simp
  · refine owedF_val (.agg #[.int .i64 3, .int .i64 1, .int .i64 8, .int .i64 1, .int .i64 1048576, .int .i64 0, .int .i64 0, .int .i64 0, .int .i64 0, .int .i64 0, .int .i64 64, .int .i64 0, .int .i64 0, .int .i64 0, .int .i64 0]) rfl rfl (by decide) rfl fun fr w hb hK => ?_
    have k52 : slot fr 52 = .agg #[.int .i64 1, .int .i64 8] := knownV hK 52 (by kernel_rfl) rfl
    have k53 : slot fr 53 = .agg #[.int .i64 1, .int .i64 1048576] := knownV hK 53 (by kernel_rfl) rfl
    have k54 : slot fr 54 = .agg #[.int .i64 0, .int .i64 64] := knownV hK 54 (by kernel_rfl) rfl
    clear hK
    unfold slot at k52 k53 k54
    go_simp
  · exact owedF_insert rfl rfl rfl (by kernel_rfl) (by decide) nd1 nd2 (by unfold insR; simp only [List.mem_cons]; exact .inr (.inr (.inr (.inr (.inr (.inr (.inr (.inr (.inr (.inr (.inr (.inl rfl)))))))))))) (by kernel_rfl) rfl Try.underlying3 Try.underlying69 rfl (by decide)
  · exact owedF_copy (j := 0) rfl rfl (.inl rfl) (by kernel_rfl) (by decide) (by decide) (of_decide_eq_true (by kernel_rfl))
  · exact owedF_copy (j := 59) rfl rfl (.inr rfl) (by kernel_rfl) (by decide) (by decide) (of_decide_eq_true (by kernel_rfl))
  · intro b w5 hb5 hbl5 ⟨m, hm, hmap⟩
    rw [full_ins] at hmap
    have hm : m ≤ 1000 := Nat.le_trans hm (by simp)
    have hbw5 := hbw4.trans (hbl5.mono hsz4)
    obtain ⟨va, hva⟩ : ∃ va, valB [9, 56, 0] (pickV [(10, .agg #[.int .i64 1, .int .i64 8]), (11, .agg #[.int .i64 1, .int .i64 1, .int .i64 8, .int .i64 0, .int .i64 0, .int .i64 0, .int .i64 0, .int .i64 0, .int .i64 0, .int .i64 0, .int .i64 0, .int .i64 0, .int .i64 0, .int .i64 0, .int .i64 0]), (12, .agg #[.int .i64 1, .int .i64 8]), (13, .agg #[.int .i64 1, .int .i64 1048576]), (14, .agg #[.int .i64 1, .int .i64 8]), (15, .agg #[.int .i64 1, .int .i64 1, .int .i64 8, .int .i64 1, .int .i64 1048576, .int .i64 1, .int .i64 8, .int .i64 0, .int .i64 0, .int .i64 0, .int .i64 0, .int .i64 0, .int .i64 0, .int .i64 0, .int .i64 0]), (16, .agg #[.int .i64 1, .int .i64 8]), (17, .agg #[.int .i64 1, .int .i64 1048576]), (18, .agg #[.int .i64 1, .int .i64 8]), (19, .agg #[.int .i64 1, .int .i64 8]), (20, .agg #[.int .i64 1, .int .i64 1, .int .i64 8, .int .i64 1, .int .i64 1048576, .int .i64 1, .int .i64 8, .int .i64 0, .int .i64 0, .int .i64 0, .int .i64 0, .int .i64 1, .int .i64 8, .int .i64 0, .int .i64 0]), (21, .agg #[.int .i64 1, .int .i64 8]), (22, .agg #[.int .i64 1, .int .i64 1048576]), (23, .agg #[.int .i64 1, .int .i64 8]), (24, .agg #[.int .i64 1, .int .i64 1, .int .i64 8, .int .i64 1, .int .i64 1048576, .int .i64 1, .int .i64 8, .int .i64 0, .int .i64 0, .int .i64 0, .int .i64 0, .int .i64 0, .int .i64 0, .int .i64 0, .int .i64 0]), (25, .agg #[.int .i64 1, .int .i64 8]), (26, .agg #[.int .i64 1, .int .i64 1048576]), (27, .agg #[.int .i64 1, .int .i64 1048576]), (28, .agg #[.int .i64 1, .int .i64 1, .int .i64 8, .int .i64 1, .int .i64 1048576, .int .i64 0, .int .i64 0, .int .i64 1, .int .i64 1048576, .int .i64 0, .int .i64 0, .int .i64 0, .int .i64 0, .int .i64 0, .int .i64 0]), (29, .agg #[.int .i64 1, .int .i64 8]), (30, .agg #[.int .i64 1, .int .i64 1048576]), (31, .agg #[.int .i64 0, .int .i64 8]), (32, .agg #[.int .i64 1, .int .i64 1, .int .i64 8, .int .i64 1, .int .i64 1048576, .int .i64 0, .int .i64 0, .int .i64 0, .int .i64 0, .int .i64 0, .int .i64 8, .int .i64 0, .int .i64 0, .int .i64 0, .int .i64 0]), (33, .agg #[.int .i64 1, .int .i64 8]), (34, .agg #[.int .i64 1, .int .i64 1048576]), (35, .agg #[.int .i64 1, .int .i64 1048576]), (36, .agg #[.int .i64 1, .int .i64 1, .int .i64 8, .int .i64 1, .int .i64 1048576, .int .i64 0, .int .i64 0, .int .i64 1, .int .i64 1048576, .int .i64 0, .int .i64 0, .int .i64 0, .int .i64 0, .int .i64 0, .int .i64 0]), (37, .agg #[.int .i64 2, .int .i64 3]), (38, .agg #[.int .i64 1, .int .i64 0, .int .i64 0, .int .i64 0, .int .i64 0, .int .i64 0, .int .i64 0, .int .i64 0, .int .i64 0, .int .i64 2, .int .i64 3, .int .i64 0, .int .i64 0, .int .i64 0, .int .i64 0]), (39, .agg #[.int .i64 1, .int .i64 8]), (40, .agg #[.int .i64 1, .int .i64 1048576]), (41, .agg #[.int .i64 1, .int .i64 1048576]), (42, .agg #[.int .i64 2, .int .i64 1, .int .i64 8, .int .i64 1, .int .i64 1048576, .int .i64 0, .int .i64 0, .int .i64 1, .int .i64 1048576, .int .i64 0, .int .i64 0, .int .i64 0, .int .i64 0, .int .i64 0, .int .i64 0]), (43, .agg #[.int .i64 1, .int .i64 8]), (44, .agg #[.int .i64 1, .int .i64 1048576]), (45, .agg #[.int .i64 1, .int .i64 1048576]), (46, .agg #[.int .i64 2, .int .i64 1, .int .i64 8, .int .i64 1, .int .i64 1048576, .int .i64 0, .int .i64 0, .int .i64 1, .int .i64 1048576, .int .i64 0, .int .i64 0, .int .i64 0, .int .i64 0, .int .i64 0, .int .i64 0]), (47, .agg #[.int .i64 1, .int .i64 8]), (48, .agg #[.int .i64 1, .int .i64 1048576]), (49, .agg #[.int .i64 1, .int .i64 1048576]), (50, .agg #[.int .i64 0, .int .i64 16]), (51, .agg #[.int .i64 3, .int .i64 1, .int .i64 8, .int .i64 1, .int .i64 1048576, .int .i64 0, .int .i64 0, .int .i64 1, .int .i64 1048576, .int .i64 0, .int .i64 0, .int .i64 0, .int .i64 0, .int .i64 0, .int .i64 16]), (52, .agg #[.int .i64 1, .int .i64 8]), (53, .agg #[.int .i64 1, .int .i64 1048576]), (54, .agg #[.int .i64 0, .int .i64 64]), (55, .agg #[.int .i64 3, .int .i64 1, .int .i64 8, .int .i64 1, .int .i64 1048576, .int .i64 0, .int .i64 0, .int .i64 0, .int .i64 0, .int .i64 0, .int .i64 64, .int .i64 0, .int .i64 0, .int .i64 0, .int .i64 0])]) b = va := ⟨_, rfl⟩
    have hv0 : va 0 = .map (some b) := by rw [← hva]; rfl
    rw [hva]
    clear hva
    simp only [putsOf]
    rw [hv0]
    go_simp
    go_wp2
    go_ret
    exact ⟨b, m, rfl, hm, Nat.le_trans hsz4 hb5, hmap, hbw5⟩
end Go.Proofs.Ytkagonijkalicaa
