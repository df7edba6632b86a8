/-
  The walk of the reference of layer 4: Same.
-/
import Derived.Test.YtmcbifdfpaooaaaFoTop
namespace Go.Proofs.Ytmcbifdfpaooaaa
open Go.RowKit
open Fo (Spc specAll specs inv top)

theorem spec_same {l l' : List Spc} {j : Nat} {f f' : Spc} (h : l = l') (hf : l[j]? = some f) (hf' : l'[j]? = some f') : f = f' := by
  subst h
  rw [hf] at hf'
  exact Option.some.inj hf'

set_option maxHeartbeats 4000000 in
set_option maxRecDepth 100000 in
theorem rsame_any (A A' : Option Addr) (n n' c c' : Nat) (l l' : List Spc) (w : World) (h : RdR scells 5 w w.heap.size A n l) (h' : RdR scells 5 w w.heap.size A' n' l') (hnc : n ≤ c) (hmax : c ≤ 9223372036854775807) (hnc' : n' ≤ c') (hmax' : c' ≤ 9223372036854775807) :
    Calls Try.prog 9 #[.slice A n c, .slice A' n' c'] w fun e w' => ∃ d : Bool, e = .returned (.bool d) ∧ (d = true ↔ l = l') ∧ Below w.heap.size w w' := by
  have HR := Lib.hid h
  have HR' := Lib.hid h'
  have HL := Lib.hid h.1
  have HL' := Lib.hid h'.1
  clear h h'
  by_cases hn : n = n'
  · subst hn
    go_enter Try.func9, Try.ntmps9
    go_wp2
    go_loopw [5] (fun i wr => ∃ j : Nat, j ≤ n ∧ i = .int .i64 (j : Int) ∧ l.take j = l'.take j ∧ Below w.heap.size w wr) (fun i _ => n - (intOf i).toNat)
    case atStart => exact ⟨0, Nat.zero_le _, rfl, rfl, Below.refl _ _⟩
    case round =>
      obtain ⟨j, hj, rfl, hpre, hb⟩ := hrel
      have HP := Lib.hid hpre
      clear hpre
      by_cases hlt : j < n
      · obtain ⟨ad, f, rfl, hab, hf, g0, g1, g2, g3, g4⟩ := spec_at (HR.out.below hb) hlt
        obtain ⟨ad', f', rfl, hab', hf', g0', g1', g2', g3', g4'⟩ := spec_at (HR'.out.below hb) hlt
        have had0 : (ad.add (j * 5)).block < wr.heap.size := by rw [add_block]; have := hb.size; omega
        have had'0 : (ad'.add (j * 5)).block < wr.heap.size := by rw [add_block]; have := hb.size; omega
        have HF := Lib.hid hf
        have HF' := Lib.hid hf'
        have hm := guard_spec
        obtain ⟨D, hD⟩ : ∃ D, decide (f = f') = D := ⟨_, rfl⟩
        have HD := Lib.hid hD
        clear hf hf' hD
        go_upto_region 6 with fail
        refine wp_region_grew (n := 26) (Say [(17, isv (.slice (some ad) n c)), (18, isv (.int .i64 (j : Int))), (19, isv (.pointer (some (ad.add (j * 5))))), (20, isv (.agg #[.int .i64 f.num, .int .i64 f.wire, .int .i64 f.since, .bool f.need, .bool f.many])), (21, isv (.slice (some ad') n c')), (22, isv (.int .i64 (j : Int))), (23, isv (.pointer (some (ad'.add (j * 5))))), (24, isv (.agg #[.int .i64 f'.num, .int .i64 f'.wire, .int .i64 f'.since, .bool f'.need, .bool f'.many])), (25, isv (.bool (!D)))]) (by kernel_rfl) (by kernel_rfl) rfl ⟨?_, ?_, ?_, ?_, ?_, ?_, ?_, ?_, ?_, trivial⟩ ?_
        · exact owed_move rfl rfl (.inl rfl) fun fr w _ hK => known_out hK 0 (by kernel_rfl)
        · exact owed_move rfl rfl (.inl rfl) fun fr w _ hK => known_out hK 5 (by kernel_rfl)
        · refine owed_val _ rfl rfl (fun _ => rfl) fun fr w hC hK => ?_
          have k17 : slot fr 17 = .slice (some ad) n c := known_in hK 17 (by kernel_rfl)
          have k18 : slot fr 18 = .int .i64 (j : Int) := known_in hK 18 (by kernel_rfl)
          clear hK
          unfold slot at k17 k18
          have f2 : ¬ n ≤ j := by omega
          go_simp
        · refine owed_val _ rfl rfl (fun _ => rfl) fun fr w hC hK => ?_
          have k19 : slot fr 19 = .pointer (some (ad.add (j * 5))) := known_in hK 19 (by kernel_rfl)
          clear hK
          unfold slot at k19
          have x0 := (Below.cell hC (p := ad.add (j * 5)) had0).trans g0
          have x1 := (Below.cell hC (p := ⟨(ad.add (j * 5)).block, (ad.add (j * 5)).off + 1, none⟩) had0).trans g1
          have x2 := (Below.cell hC (p := ⟨(ad.add (j * 5)).block, (ad.add (j * 5)).off + 2, none⟩) had0).trans g2
          have x3 := (Below.cell hC (p := ⟨(ad.add (j * 5)).block, (ad.add (j * 5)).off + 3, none⟩) had0).trans g3
          have x4 := (Below.cell hC (p := ⟨(ad.add (j * 5)).block, (ad.add (j * 5)).off + 4, none⟩) had0).trans g4
          go_simp
        · exact owed_move rfl rfl (.inl rfl) fun fr w _ hK => known_out hK 1 (by kernel_rfl)
        · exact owed_move rfl rfl (.inl rfl) fun fr w _ hK => known_out hK 5 (by kernel_rfl)
        · refine owed_val _ rfl rfl (fun _ => rfl) fun fr w hC hK => ?_
          have k21 : slot fr 21 = .slice (some ad') n c' := known_in hK 21 (by kernel_rfl)
          have k22 : slot fr 22 = .int .i64 (j : Int) := known_in hK 22 (by kernel_rfl)
          clear hK
          unfold slot at k21 k22
          have f2 : ¬ n ≤ j := by omega
          go_simp
        · refine owed_val _ rfl rfl (fun _ => rfl) fun fr w hC hK => ?_
          have k23 : slot fr 23 = .pointer (some (ad'.add (j * 5))) := known_in hK 23 (by kernel_rfl)
          clear hK
          unfold slot at k23
          have x0 := (Below.cell hC (p := ad'.add (j * 5)) had'0).trans g0'
          have x1 := (Below.cell hC (p := ⟨(ad'.add (j * 5)).block, (ad'.add (j * 5)).off + 1, none⟩) had'0).trans g1'
          have x2 := (Below.cell hC (p := ⟨(ad'.add (j * 5)).block, (ad'.add (j * 5)).off + 2, none⟩) had'0).trans g2'
          have x3 := (Below.cell hC (p := ⟨(ad'.add (j * 5)).block, (ad'.add (j * 5)).off + 3, none⟩) had'0).trans g3'
          have x4 := (Below.cell hC (p := ⟨(ad'.add (j * 5)).block, (ad'.add (j * 5)).off + 4, none⟩) had'0).trans g4'
          go_simp
        · refine owed_val _ rfl rfl (fun _ => rfl) fun fr w hC hK => ?_
          have k20 : slot fr 20 = .agg #[.int .i64 f.num, .int .i64 f.wire, .int .i64 f.since, .bool f.need, .bool f.many] := known_in hK 20 (by kernel_rfl)
          have k24 : slot fr 24 = .agg #[.int .i64 f'.num, .int .i64 f'.wire, .int .i64 f'.since, .bool f'.need, .bool f'.many] := known_in hK 24 (by kernel_rfl)
          clear hK
          unfold slot at k20 k24
          go_simp
          exact spec_if HD.out w
        intro vs w9 hg9 hgood
        have h6 : vs 25 = .bool (!D) := hgood.2.2.2.2.2.2.2.2.1
        clear hgood
        have hbw9 := hb.trans (hg9.mono hb.size)
        simp only [putsOf]
        rw [h6]
        go_simp
        cases D with
        | true =>
          have hff : f = f' := of_decide_eq_true HD.out
          have HFF := Lib.hid hff
          clear hff
          go_wp2
          go_roundw
          case rel =>
            refine ⟨j + 1, by omega, by go_num, ?_, hbw9⟩
            rw [List.take_add_one, List.take_add_one, HP.out, HF.out, HF'.out, HFF.out]
          case measure => simp [intOf]; omega
        | false =>
          have hff : ¬ f = f' := of_decide_eq_false HD.out
          have HFF := Lib.hid hff
          clear hff
          go_wp2
          go_ret
          exact ⟨false, rfl, ⟨fun h => (by cases h), fun h => absurd (spec_same h HF.out HF'.out) HFF.out⟩, hbw9⟩
      · obtain rfl : j = n := by omega
        have hll : l = l' := by
          have h1 := HP.out
          rwa [List.take_of_length_le (by have := HL.out; omega), List.take_of_length_le (by have := HL'.out; omega)] at h1
        have HLL := Lib.hid hll
        clear hll
        go_wp2
        go_ret
        exact ⟨true, rfl, ⟨fun _ => HLL.out, fun _ => rfl⟩, hb⟩
  · have q : ((n : Int) != (n' : Int)) = true := by rw [bne_iff_ne]; omega
    have HNE := Lib.hid (show ¬ l = l' from fun h => hn (by rw [← HL.out, ← HL'.out, h]))
    clear hn
    go_enter Try.func9, Try.ntmps9
    go_wp2
    go_ret
    exact ⟨false, rfl, ⟨fun h => (by cases h), fun h => absurd h HNE.out⟩, Below.refl _ _⟩
end Go.Proofs.Ytmcbifdfpaooaaa
