/-
  The walks of the reference of layer 4: Specs, Top, Same.
-/
import Derived.Test.YtmcbifdfpaooaaaFoRef
namespace Go.Proofs.Ytmcbifdfpaooaaa
open Go.RowKit
open Fo (Spc specAll specs inv top)

theorem own_base' {w : World} {base base' : Nat} {e : TypeId} {size n : Nat} {v : Value} {xs : List Value} (h : w.ownsRow base e size v n xs) (hb : base' ≤ base) : w.ownsRow base' e size v n xs := by
  refine ⟨h.1, ?_⟩
  rcases h.2 with hn | ⟨g, cap, cur, hv, hbg, rest⟩
  · exact .inl hn
  · exact .inr ⟨g, cap, cur, hv, Nat.le_trans hb hbg, rest⟩
/-- The cells of the k-th spec of a row, as a load spells them. -/
theorem spec_at {w : World} {B n : Nat} {A : Option Addr} {l : List Spc} (h : RdR scells 5 w B A n l) {k : Nat} (hk : k < n) : ∃ (ad : Addr) (s : Spc), A = some ad ∧ ad.block < B ∧ l[k]? = some s ∧ w.cell? (ad.add (k * 5)) = some (.int .i64 s.num) ∧ w.cell? ⟨(ad.add (k * 5)).block, (ad.add (k * 5)).off + 1, none⟩ = some (.int .i64 s.wire) ∧
    w.cell? ⟨(ad.add (k * 5)).block, (ad.add (k * 5)).off + 2, none⟩ = some (.int .i64 s.since) ∧ w.cell? ⟨(ad.add (k * 5)).block, (ad.add (k * 5)).off + 3, none⟩ = some (.bool s.need) ∧ w.cell? ⟨(ad.add (k * 5)).block, (ad.add (k * 5)).off + 4, none⟩ = some (.bool s.many) := by
  obtain ⟨ad, s, hA, hb, hs, hc⟩ := h.get scells_len hk
  refine ⟨ad, s, hA, hb, hs, hc 0 _ rfl, ?_, ?_, ?_, ?_⟩
  · rw [add_spell' _ _ _ (by omega)]; exact hc 1 _ rfl
  · rw [add_spell' _ _ _ (by omega)]; exact hc 2 _ rfl
  · rw [add_spell' _ _ _ (by omega)]; exact hc 3 _ rfl
  · rw [add_spell' _ _ _ (by omega)]; exact hc 4 _ rfl

set_option maxHeartbeats 4000000 in
set_option maxRecDepth 100000 in
theorem rspecs_any (k v : Int) (w : World) (k0 : -9223372036854775808 ≤ k) (k1 : k ≤ 9223372036854775807) (v0 : -9223372036854775808 ≤ v) (v1 : v ≤ 9223372036854775807) : Calls Try.prog 11 #[.int .i64 k, .int .i64 v] w (NewSpecs w (specs k v)) := by
  obtain ⟨i0, hi, hz0, hz1, hz2⟩ := info_parts spec_info
  have hlen := Fo.specAll_len k
  have hall := fun s hs => Fo.specAll_mem k s hs
  have hsp : specs k v = (specAll k).filter (inv v) := rfl
  have hca := fun w' => rall_any k w' k0 k1
  obtain ⟨L, hL⟩ : ∃ L, specAll k = L := ⟨_, rfl⟩
  rw [hL] at hlen hall hsp
  simp only [hL] at hca
  rw [hsp]
  have HCA := Lib.hid hca
  have HALL := Lib.hid hall
  clear hca hL hsp hall
  obtain ⟨w0, hw0⟩ : ∃ w0 : World, w0 = w.alloc (.cells #[] 33) := ⟨_, rfl⟩
  have hown0 : w0.ownsRow w.heap.size 33 5 (.slice (some ⟨w.heap.size, 0, none⟩) 0 0) 0 [] := by rw [hw0]; exact World.ownsRow_made w #[] 0 (Nat.le_refl _) (by unfold maxLen; omega) rfl
  have hb0 : Below w.heap.size w w0 := by rw [hw0]; exact (Below.refl _ _).alloc (Nat.le_refl _) _
  have hs0 : w.heap.size < w0.heap.size := by rw [hw0]; simp
  have HW0 := Lib.hid hw0
  clear hw0
  go_enter Try.func11, Try.ntmps11
  go_wp2_with fail
  rw [← HW0.out]
  refine (HCA.out w0).mono ?_
  rintro e w1 ⟨A, n, c, rfl, hnc, hmax, hn, hown, hb1⟩
  have hown1 := own_below hown0 hb1
  have hne1 : (Value.slice A n c).ownBlock ≠ some w.heap.size := fun h => by have := (hown.lt _ h).1; omega
  have HO := Lib.hid (own_base' hown (Nat.le_of_lt hs0))
  have HO1 := Lib.hid hown1
  have HN := Lib.hid hn
  have HNE := Lib.hid hne1
  have hbw1 := hb0.trans (hb1.mono (Nat.le_of_lt hs0))
  have hn10 : n ≤ 10 := by omega
  clear hown hown0 hown1 hn hne1 hb1 hb0 HCA HW0
  go_wp2
  go_loopw [5, 7] (fun o i wr => ∃ (j m co g : Nat) (F : List Spc), j ≤ n ∧ i = .int .i64 (j : Int) ∧ m ≤ j ∧ o = .slice (some ⟨g, 0, none⟩) m co ∧ w.heap.size ≤ g ∧ wr.ownsRow w.heap.size 33 5 (.slice (some ⟨g, 0, none⟩) m co) m (rowc scells F) ∧ F.length = m ∧ (L.take j).filter (inv v) = F ∧
      wr.ownsRow w.heap.size 33 5 (.slice A n c) n (rowc scells L) ∧ (Value.slice A n c).ownBlock ≠ some g ∧ Below w.heap.size w wr) (fun _ i _ => n - (intOf i).toNat)
  case atStart => exact ⟨0, 0, 0, w.heap.size, [], Nat.zero_le _, rfl, Nat.le_refl _, rfl, Nat.le_refl _, HO1.out, rfl, rfl, HO.out, HNE.out, hbw1⟩
  case round =>
    obtain ⟨j, m, co, g, F, hj, rfl, hmj, rfl, hwg, hown, hF, hfl, hsrc, hne, hb⟩ := hrel
    have HOW := Lib.hid hown
    have HF := Lib.hid hF
    have HFL := Lib.hid hfl
    have HSR := Lib.hid hsrc
    have HNG := Lib.hid hne
    have hsz := hb.size
    clear hown hF hfl hsrc hne
    by_cases hlt : j < n
    · obtain ⟨ad, s, hA, hab, hs, c0, c1, c2, c3, c4⟩ := spec_at ⟨HN.out, Rd.of_own HSR.out⟩ hlt
      subst hA
      have hsi := (HALL.out s (List.mem_of_getElem? hs))
      have htk : L.take (j + 1) = L.take j ++ [s] := by rw [List.take_add_one, hs]; rfl
      have HTK := Lib.hid htk
      obtain ⟨D, hD⟩ : ∃ D, inv v s = D := ⟨_, rfl⟩
      have HD := Lib.hid hD
      clear htk hs hD
      go_upto_region 6 with fail
      go_cut [31] (fun p wx => p = .bool D ∧ wx = wr)
      case first =>
        have hinv : inv v s = (decide (1 ≤ v) && decide (v ≤ 3) && decide (s.since ≤ v)) := rfl
        by_cases h1 : 1 ≤ v
        · by_cases h2 : v ≤ 3
          · by_cases h3 : s.since ≤ v
            · obtain rfl : D = true := by rw [← HD.out, hinv, decide_eq_true h1, decide_eq_true h2, decide_eq_true h3]; rfl
              clear hinv
              go_wp2
              go_meet
              case rel => exact ⟨rfl, rfl⟩
            · obtain rfl : D = false := by rw [← HD.out, hinv, decide_eq_true h1, decide_eq_true h2, decide_eq_false h3]; rfl
              clear hinv
              go_wp2
              go_meet
              case rel => exact ⟨rfl, rfl⟩
          · obtain rfl : D = false := by rw [← HD.out, hinv, decide_eq_true h1, decide_eq_false h2]; rfl
            clear hinv
            go_wp2
            go_meet
            case rel => exact ⟨rfl, rfl⟩
        · obtain rfl : D = false := by rw [← HD.out, hinv, decide_eq_false h1]; rfl
          clear hinv
          go_wp2
          go_meet
          case rel => exact ⟨rfl, rfl⟩
      case rest =>
        obtain ⟨rfl, hwc⟩ := hcut
        have hwc := hwc.symm
        subst hwc
        cases D with
        | true =>
          go_wp2_with (at_builtin; refine wpList_append_lies _ rfl (.tmp 32) (.tmp 37) 25 rfl w.heap.size 33 i0 (.agg #[.int .i64 0, .int .i64 0, .int .i64 0, .bool false, .bool false]) 5 32 Try.underlying25 hi hz0 hz1 hz2 rfl (by decide) _ m _ rfl (HOW.out.alloc _) ⟨wr.heap.size, 0, none⟩ 1 1 (scells s) rfl rfl (cells_new wr (scells s) 33) (scells_one s) (by decide) (by unfold maxLen; omega) (by omega) (by simp; omega) (wr.heap.size + 1) (by simp) ?_)
          intro g2 cap w2 hown2 hgrow hat hlt2
          have hg2 := (hown2.lt g2 (by simp [Value.ownBlock])).1
          obtain ⟨r1, r2, r3⟩ := grow_two hb hwg HSR.out HNG.out hgrow hat rfl
          have HR2 := Lib.hid hown2
          have R1 := Lib.hid r1
          have R2 := Lib.hid r2
          clear hown2 hgrow hat r1 r2
          go_wp2
          go_roundw
          case rel =>
            refine ⟨j + 1, m + 1, cap, g2, F ++ [s], by omega, by go_num, by omega, rfl, hg2, ?_, by simp [HF.out], ?_, R1.out, R2.out, r3⟩
            · rw [rowc_app, rowc_one]; exact HR2.out
            · rw [HTK.out, List.filter_append, HFL.out, List.filter_cons, if_pos HD.out]; rfl
          case measure => simp [intOf]; omega
        | false =>
          go_wp2
          go_roundw
          case rel =>
            refine ⟨j + 1, m, co, g, F, by omega, by go_num, by omega, rfl, hwg, HOW.out, HF.out, ?_, HSR.out, HNG.out, hb⟩
            rw [HTK.out, List.filter_append, HFL.out, List.filter_cons, if_neg (by rw [HD.out]; decide)]
            simp
          case measure => simp [intOf]; omega
    · obtain rfl : j = n := by omega
      have hfl := HFL.out
      rw [List.take_of_length_le (by have := HN.out; omega)] at hfl
      have HFE := Lib.hid hfl
      have hcap := own_cap' HOW.out
      clear hfl
      go_wp2
      go_ret
      refine ⟨_, m, co, rfl, hcap.1, hcap.2, ?_, ?_, hb⟩
      · rw [HFE.out]; exact HF.out
      · rw [HFE.out]; exact HOW.out
end Go.Proofs.Ytmcbifdfpaooaaa
