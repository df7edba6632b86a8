/-
  The walk of the landed tally's add.
-/
import Derived.Test.YtcbfcjpmoechlaaRfArr
import Derived.Test.YtcbfcjpmoechlaaLive
import Derived.Deep.DeepCutAuto
import Derived.BigQuiet
set_option linter.unusedVariables false
set_option linter.unusedSimpArgs false
namespace Go.Proofs.Ytcbfcjpmoechlaa
open Go.RowKit

theorem post_none {P : Program} {fn : Func} {R : Ending → World → Prop} {a : Act} {w : World} (hr : fn.results = #[]) (hd : a.defers = []) (hR : R (.returned (.tuple #[])) w) : bodyPost P fn R .normal a w := by
  refine ⟨hd, .tuple #[], ?_, hR⟩
  simp [results, hr]

set_option maxHeartbeats 2000000 in
set_option maxRecDepth 100000 in
theorem add_r (g : Nat) (f : Int → Nat) (A : Option Addr) (n c : Nat) (ch : List Int) (w : World) (hk : Blk w g 42 (tal f)) (h : Rd w g 1 A n (ivs ch)) (hnc : n ≤ c) (hmax : c ≤ 9223372036854775807) (hw : ∀ x ∈ ch, I64 x) (hf : ∀ x, f x + n ≤ 2000000000) :
    Calls Try.prog 30 #[.pointer (some ⟨g, 0, none⟩), .slice A n c] w fun e w' => e = .returned (.tuple #[]) ∧ Blk w' g 42 (tal fun x => f x + ch.count x) ∧ Below g w w' ∧ w'.heap.size = w.heap.size := by
  have hlen : ch.length = n := by have := h.1; rw [ivs_len] at this; omega
  have HR := Lib.hid h
  have HK := Lib.hid hk
  have HL := Lib.hid hlen
  have HW := Lib.hid hw
  have HF := Lib.hid hf
  clear h hk hlen hw hf
  go_enter Try.func30, Try.ntmps30
  go_wp2
  go_loopw [8] (fun i wr => ∃ j : Nat, j ≤ n ∧ i = .int .i64 (j : Int) ∧ Blk wr g 42 (tal fun x => f x + (ch.take j).count x) ∧ Below g w wr ∧ wr.heap.size = w.heap.size) (fun i _ => n - (intOf i).toNat)
  case atStart =>
    refine ⟨0, Nat.zero_le _, rfl, ?_, Below.refl _ _, rfl⟩
    simpa using HK.out
  case round =>
    obtain ⟨j, hj, rfl, hkj, hb, hsz⟩ := hrel
    have HKJ := Lib.hid hkj
    have HSZ := Lib.hid hsz
    clear hkj hsz
    by_cases hlt : j < n
    · obtain ⟨ad, x, rfl, hab, hx, gx⟩ := (HR.out.below hb).int hlt
      have hix := HW.out x (List.mem_of_getElem? hx)
      have HT := Lib.hid (fun y => Rf.count_take hx y)
      clear hx
      have out : ∀ (hx : ¬ (1 ≤ x ∧ x ≤ 64)), tal (fun y => f y + (ch.take (j + 1)).count y) = tal (fun y => f y + (ch.take j).count y) := fun hx => tal_ext fun i h1 h2 => by rw [HT.out, if_neg (by omega)]; rfl
      by_cases h1 : 1 ≤ x
      · by_cases h2 : x ≤ 64
        · clear out
          obtain ⟨k, rfl⟩ : ∃ k : Nat, x = (k : Int) := ⟨x.toNat, by omega⟩
          obtain ⟨F, hF⟩ : ∃ F : Int → Nat, F = fun y => f y + (ch.take j).count y := ⟨_, rfl⟩
          rw [← hF] at HKJ
          have HTS := Lib.hid (tal_set F (show 1 ≤ k by omega))
          have HTE := Lib.hid (show tal (fun y => if y = (k : Int) then F k + 1 else F y) = tal (fun y => f y + (ch.take (j + 1)).count y) from tal_ext fun i _ _ => by rw [HT.out, hF]; by_cases e : (i : Int) = k <;> simp [e, eq_comm] <;> omega)
          have hFk : F k ≤ 2000000000 := by
            rw [hF]
            have := HF.out k
            have h3 := List.count_le_length (a := (k : Int)) (l := ch.take j)
            rw [List.length_take] at h3
            show f k + (ch.take j).count (k : Int) ≤ _
            omega
          have c0 := HKJ.out.cell k
          have z0 := HKJ.out.frozen k
          rw [tal_get F (show 1 ≤ k by omega) (by omega)] at c0
          obtain ⟨t, ht⟩ : ∃ t, F k = t := ⟨_, rfl⟩
          rw [ht] at c0 hFk HTS
          clear hF
          go_upto_region 4 with fail
          have b65 : ¬ (65 : Int) ≤ (k : Int) := by omega
          refine wp_region_live2 (n := 27) (C := fun w => w = wr.drew) (Γ := fun d v _ => v = (pickV [(18, .pointer (some ⟨g, 0, none⟩)), (19, .int .i64 (k : Int)), (20, .pointer (some ⟨g, 0, none⟩)), (21, .pointer (some ⟨g, k, none⟩)), (22, .int .i64 (t : Int)), (23, .int .i64 ((t : Int) + 1)), (24, .pointer (some ⟨g, 0, none⟩)), (25, .pointer (some ⟨g, k, none⟩))]) d) rfl (by kernel_rfl) (by kernel_rfl) (by kernel_rfl) rfl rfl ⟨?_, ?_, ?_, ?_, ?_, ?_, ?_, ?_, trivial⟩ ?_
          · refine owedl_val (.pointer (some ⟨g, 0, none⟩)) rfl rfl (fun _ => rfl) fun fr w1 hC hK => ?_
            have k0 : slot fr 0 = .pointer (some ⟨g, 0, none⟩) := (known_out hK 0 (by kernel_rfl)).trans rfl
            clear hK
            unfold slot at k0
            go_simp
          · refine owedl_val (.int .i64 (k : Int)) rfl rfl (fun _ => rfl) fun fr w1 hC hK => ?_
            have k5 : slot fr 5 = .int .i64 (k : Int) := (known_out hK 5 (by kernel_rfl)).trans rfl
            clear hK
            unfold slot at k5
            go_simp
          · refine owedl_val (.pointer (some ⟨g, 0, none⟩)) rfl rfl (fun _ => rfl) fun fr w1 hC hK => ?_
            have k18 : slot fr 18 = .pointer (some ⟨g, 0, none⟩) := known_in hK 18 (by kernel_rfl)
            clear hK
            unfold slot at k18
            go_simp
          · refine owedl_val (.pointer (some ⟨g, k, none⟩)) rfl rfl (fun _ => rfl) fun fr w1 hC hK => ?_
            have k20 : slot fr 20 = .pointer (some ⟨g, 0, none⟩) := known_in hK 20 (by kernel_rfl)
            have k19 : slot fr 19 = .int .i64 (k : Int) := known_in hK 19 (by kernel_rfl)
            clear hK
            unfold slot at k20 k19
            go_simp
          · refine owedl_val (.int .i64 (t : Int)) rfl rfl (fun _ => rfl) fun fr w1 hC hK => ?_
            have k21 : slot fr 21 = .pointer (some ⟨g, k, none⟩) := known_in hK 21 (by kernel_rfl)
            clear hK
            unfold slot at k21
            have c1 : w1.cell? ⟨g, k, none⟩ = some (.int .i64 (t : Int)) := by rw [hC]; exact c0
            go_simp
          · refine owedl_val (.int .i64 ((t : Int) + 1)) rfl rfl (fun _ => rfl) fun fr w1 hC hK => ?_
            have k22 : slot fr 22 = .int .i64 (t : Int) := known_in hK 22 (by kernel_rfl)
            have t1 : IntKind.i64.wrap ((t : Int) + 1) = (t : Int) + 1 := by rw [IntKind.wrap_i64] <;> omega
            clear hK
            unfold slot at k22
            go_simp
          · refine owedl_val (.pointer (some ⟨g, 0, none⟩)) rfl rfl (fun _ => rfl) fun fr w1 hC hK => ?_
            have k18 : slot fr 18 = .pointer (some ⟨g, 0, none⟩) := known_in hK 18 (by kernel_rfl)
            clear hK
            unfold slot at k18
            go_simp
          · refine owedl_val (.pointer (some ⟨g, k, none⟩)) rfl rfl (fun _ => rfl) fun fr w1 hC hK => ?_
            have k24 : slot fr 24 = .pointer (some ⟨g, 0, none⟩) := known_in hK 24 (by kernel_rfl)
            have k19 : slot fr 19 = .int .i64 (k : Int) := known_in hK 19 (by kernel_rfl)
            clear hK
            unfold slot at k24 k19
            go_simp
          · intro vs w1 hC hg
            subst hC
            have v25 : vs 25 = .pointer (some ⟨g, k, none⟩) := hg 25 (by kernel_rfl)
            have v23 : vs 23 = .int .i64 ((t : Int) + 1) := hg 23 (by kernel_rfl)
            clear hg
            simp only [putsOf, List.dropLast]
            rw [v25, v23]
            go_simp
            have hte : (tal fun y => if y = (k : Int) then t + 1 else F y) = tal fun y => f y + (ch.take (j + 1)).count y := by rw [← ht]; exact HTE.out
            have hkn := HKJ.out.put k (.int .i64 ((t : Int) + 1))
            rw [HTS.out, hte] at hkn
            have HKN := Lib.hid hkn
            have hbn := hb.grown (grown_cell wr g k (.int .i64 ((t : Int) + 1))) (by have := HSZ.out; have := HK.out.lt; omega) (fun q hq => by injection hq with hq; omega)
            have HSN := Lib.hid (show (wr.setCell ⟨g, k, none⟩ (.int .i64 ((t : Int) + 1))).heap.size = w.heap.size by rw [← HSZ.out]; simp)
            clear hkn hte v25 v23
            go_wp2
            go_roundw
            case rel => exact ⟨j + 1, by omega, by go_num, HKN.out, hbn.trans ⟨rfl, rfl, rfl, Nat.le_refl _, fun _ _ => rfl⟩, HSN.out⟩
            case measure => simp [intOf]; omega
        · have HE := Lib.hid (out (by omega))
          clear out
          go_wp2
          go_roundw
          case rel => exact ⟨j + 1, by omega, by go_num, by rw [HE.out]; exact HKJ.out, hb, HSZ.out⟩
          case measure => simp [intOf]; omega
      · have HE := Lib.hid (out (by omega))
        clear out
        go_wp2
        go_roundw
        case rel => exact ⟨j + 1, by omega, by go_num, by rw [HE.out]; exact HKJ.out, hb, HSZ.out⟩
        case measure => simp [intOf]; omega
    · obtain rfl : j = n := by omega
      have hfull : ch.take j = ch := List.take_of_length_le (by have := HL.out; omega)
      rw [hfull] at HKJ
      go_wp2
      refine post_none rfl rfl ?_
      exact ⟨rfl, HKJ.out, hb, HSZ.out⟩
end Go.Proofs.Ytcbfcjpmoechlaa
