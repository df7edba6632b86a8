/-
  The walks of the reference of layer 5: Unchunk, Ints.
-/
import Derived.Test.YtkagonijkalicaaCmRow
set_option linter.unusedVariables false
set_option linter.unusedSimpArgs false
namespace Go.Proofs.Ytkagonijkalicaa
open Go.RowKit
open Cm (inR inR_iff need needs aheadI bad rowGo row chunksB unchunk rowGo_step row_mem)
open Vi (put put_len put_byte rput_int)

/-- What comes back is a row of numbers in memory of the call's own, beside an error's number. -/
def NewInts (w : World) (l : List Int) (err : Int) (e : Ending) (w' : World) : Prop :=
  ∃ v, e = .returned (.tuple #[v, .int .i64 err]) ∧ w'.ownsRow w.heap.size 3 1 v l.length (ivs l) ∧ Below w.heap.size w w'

set_option maxHeartbeats 1000000 in
set_option maxRecDepth 100000 in
theorem runchunk_any (A : Option Addr) (n c : Nat) (bs : List Nat) (w : World) (hb : ∀ c ∈ bs, c < 256) (h : Rd w w.heap.size 1 A n (bvs bs)) (hnc : n ≤ c) (hmax : c ≤ 9223372036854775807) (hn : n ≤ 20000) :
    Calls Try.prog 17 #[.slice A n c] w (NewInts w (unchunk bs).1 ((unchunk bs).2 : Nat)) := by
  obtain ⟨i0, hi, hz0, hz1, hz2⟩ := info_parts int_info
  have hlen : bs.length = n := by have := h.1; rw [bvs_len] at this; omega
  obtain ⟨L, hL⟩ : ∃ L : List Int, (bs.map fun c : Nat => (c : Int)) = L := ⟨_, rfl⟩
  have hLn : L.length = n := by rw [← hL, List.length_map, hlen]
  obtain ⟨U, hU⟩ : ∃ U, unchunk bs = U := ⟨_, rfl⟩
  have hUU : U = if row L then (L, 0) else ([], 6) := by rw [← hU]; unfold unchunk; rw [hL]
  have hback : L.map Int.toNat = bs := by rw [← hL, List.map_map]; conv => rhs; rw [← List.map_id bs]
                                          exact List.map_congr_left fun c _ => by simp
  rw [hU]
  have HR := Lib.hid h
  have HL := Lib.hid hL
  have HLN := Lib.hid hLn
  have HB := Lib.hid hb
  have HU := Lib.hid hUU
  have HBK := Lib.hid hback
  clear h hlen hb hL hU hUU hLn hback
  go_enter Try.func17, Try.ntmps17
  go_wp2
  go_loopw [4, 5] (fun v i wr => ∃ j : Nat, j ≤ n ∧ i = .int .i64 (j : Int) ∧ wr.ownsRow w.heap.size 3 1 v j (ivs (L.take j)) ∧ Below w.heap.size w wr) (fun _ i _ => n - (intOf i).toNat)
  case atStart => exact ⟨0, Nat.zero_le _, rfl, by simpa [ivs] using World.ownsRow_made (e := 3) (size := 1) (base := w.heap.size) w #[] 0 (Nat.le_refl _) (by unfold maxLen; omega) rfl, (Below.refl _ _).alloc (Nat.le_refl _) _⟩
  case round =>
    obtain ⟨j, hj, rfl, hown, hb⟩ := hrel
    have HO := Lib.hid hown
    have hsz := hb.size
    clear hown
    by_cases hlt : j < n
    · obtain ⟨ad, x, rfl, hx256, _, hx, g0⟩ := (HR.out.below hb).byte HB.out hlt
      have HE := Lib.hid (show L.take (j + 1) = L.take j ++ [(x : Int)] by rw [← HL.out, List.take_add_one, List.getElem?_map, hx]; rfl)
      clear hx
      go_wp2_with (at_builtin; refine wpList_append_rd _ rfl (.tmp 15) (.tmp 21) 22 rfl w.heap.size 3 i0 (.int .i64 0) 1 8 Try.underlying22 hi hz0 hz1 hz2 rfl (by decide) _ j _ rfl (HO.out.alloc _) (wr.heap.size + 1) (some ⟨wr.heap.size, 0, none⟩) 1 1 [.int .i64 (x : Int)] rfl (rd_new wr [.int .i64 (x : Int)] 3) (ivs_one [(x : Int)]) (by unfold maxLen; omega) (by omega) (by simp; omega) ?_)
      intro v3 w3 hown3 hg3
      have hb3 : Below w.heap.size w w3 := (hb.alloc hsz _).grown hg3 (by simp; omega) (fun k hk => (HO.out.lt k hk).1)
      clear hg3
      go_wp2
      go_roundw
      case rel => exact ⟨j + 1, by omega, by go_num, by rw [HE.out, ivs_app]; exact hown3, hb3⟩
      case measure => simp [intOf]; omega
    · obtain rfl : j = n := by omega
      have hown := HO.out
      rw [List.take_of_length_le (by have := HLN.out; omega)] at hown
      obtain ⟨A1, c1, hv, hc1, hm1⟩ := slice_of_own hown
      subst hv
      have HO2 := Lib.hid hown
      have HC := Lib.hid (rchunks_any A1 j c1 L wr (Rd.of_own hown) hc1 hm1)
      clear hown
      cases hrow : row L with
      | false =>
        have hu := HU.out
        rw [hrow, if_neg (by decide)] at hu
        subst hu
        have hp : chunksB L = ([], 1) := by unfold chunksB; rw [hrow]; rfl
        have hc := HC.out
        rw [hp] at hc
        have HC2 := Lib.hid hc
        clear hc hp hrow
        go_wp2_with fail
        refine HC2.out.mono ?_
        rintro e w1 ⟨v1, rfl, hown1, hb1⟩
        go_wp2
        go_ret2
        exact ⟨_, rfl, World.ownsRow_nil _ _ _ _, hb.trans (hb1.mono hsz)⟩
      | true =>
        have hu := HU.out
        rw [hrow, if_pos rfl] at hu
        subst hu
        have hp : chunksB L = (bs, 0) := by unfold chunksB; rw [hrow, HBK.out]; rfl
        have hc := HC.out
        rw [hp] at hc
        have HC2 := Lib.hid hc
        clear hc hp hrow
        go_wp2_with fail
        refine HC2.out.mono ?_
        rintro e w1 ⟨v1, rfl, hown1, hb1⟩
        obtain ⟨A2, c2, rfl, _, _⟩ := slice_of_own hown1
        have hbw1 := hb.trans (hb1.mono hsz)
        have s1 := run_str (P := Try.prog) w1 25 9 5 Try.underlying25 Try.underlying5 Try.underlying9 (Rd.of_own hown1) c2
        have s2 := run_str (P := Try.prog) w1 25 9 5 Try.underlying25 Try.underlying5 Try.underlying9 (HR.out.below hbw1) c
        have HO3 := Lib.hid (own_below HO2.out hb1)
        clear hown1
        go_wp2
        go_ret2
        refine ⟨_, rfl, ?_, hbw1⟩
        simp only [HLN.out]
        exact HO3.out
end Go.Proofs.Ytkagonijkalicaa
