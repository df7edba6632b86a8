/-
  The walks of the reference of layer 5: Row, Chunks, Unchunk, Ints.
-/
import Derived.Test.YtkagonijkalicaaCmNum
import Derived.Test.YtkagonijkalicaaMgF
set_option linter.unusedVariables false
set_option linter.unusedSimpArgs false
namespace Go.Proofs.Ytkagonijkalicaa
open Go.RowKit
open Cm (inR inR_iff need needs aheadI bad rowGo row chunksB unchunk rowGo_step row_mem)
open Vi (put put_len put_byte rput_int)

theorem put_one {x : Nat} (h : x < 128) : put x = [x] := by
  unfold put
  rw [show (9 : Nat) = 8 + 1 from rfl]
  simp [Vi.putF, h]

set_option maxHeartbeats 1000000 in
set_option maxRecDepth 100000 in
theorem rchunks_any (A : Option Addr) (n c : Nat) (l : List Int) (w : World) (h : Rd w w.heap.size 1 A n (ivs l)) (hnc : n ≤ c) (hmax : c ≤ 9223372036854775807) :
    Calls Try.prog 14 #[.slice A n c] w (NewPair w (chunksB l).1 ((chunksB l).2 : Nat)) := by
  obtain ⟨i0, hi, hz0, hz1, hz2⟩ := info_parts byte_info
  have hlen : l.length = n := by have := h.1; rw [ivs_len] at this; omega
  have HR := Lib.hid h
  have HL := Lib.hid hlen
  have HC := Lib.hid (row_any A n c l w h hnc hmax)
  clear h hlen
  cases hrow : row l with
  | false =>
    have hp : chunksB l = ([], 1) := by unfold chunksB; rw [hrow]; rfl
    rw [hp]
    clear hp
    go_enter Try.func14, Try.ntmps14
    go_wp2_with fail
    refine HC.out.mono ?_
    rintro e w1 ⟨rfl, hb1⟩
    rw [hrow]
    go_wp2
    go_ret2
    exact ⟨_, rfl, World.ownsRow_nil _ _ _ _, hb1⟩
  | true =>
    have hp : chunksB l = (l.map Int.toNat, 0) := by unfold chunksB; rw [hrow]; rfl
    rw [hp]
    obtain ⟨L, hL⟩ : ∃ L, l.map Int.toNat = L := ⟨_, rfl⟩
    have HLL := Lib.hid hL
    have HLN := Lib.hid (show L.length = n by rw [← hL, List.length_map, HL.out])
    rw [hL]
    clear hL
    obtain ⟨hmem, h1, h8⟩ := row_mem hrow
    have HM := Lib.hid hmem
    rw [HL.out] at h1 h8
    clear hp hmem
    go_enter Try.func14, Try.ntmps14
    go_wp2_with fail
    refine HC.out.mono ?_
    rintro e w1 ⟨rfl, hb1⟩
    rw [hrow]
    clear hrow
    go_wp2
    go_loopw [4, 5] (fun v i wr => ∃ j : Nat, j ≤ n ∧ i = .int .i64 (j : Int) ∧ wr.ownsRow w.heap.size 5 1 v j (bvs (L.take j)) ∧ Below w.heap.size w wr) (fun _ i _ => n - (intOf i).toNat)
    case atStart => exact ⟨0, Nat.zero_le _, rfl, by simpa [bvs] using World.ownsRow_made (e := 5) (size := 1) (base := w.heap.size) w1 #[] 0 hb1.size (by unfold maxLen; omega) rfl, hb1.alloc hb1.size _⟩
    case round =>
      obtain ⟨j, hj, rfl, hown, hb⟩ := hrel
      have HO := Lib.hid hown
      have hsz := hb.size
      clear hown
      by_cases hlt : j < n
      · obtain ⟨ad, x, rfl, hab, hx, g0⟩ := (HR.out.below hb).int hlt
        obtain ⟨hx1, hx64⟩ := HM.out x (List.mem_of_getElem? hx)
        obtain ⟨k, rfl⟩ : ∃ k : Nat, x = (k : Int) := ⟨x.toNat, by omega⟩
        have HE := Lib.hid (show L.take (j + 1) = L.take j ++ [k] by rw [← HLL.out, List.take_add_one, List.getElem?_map, hx]; rfl)
        have t14 : IntKind.u64.wrap (k : Int) = (k : Int) := by rw [IntKind.wrap_u64]; omega
        have HP := Lib.hid (put_one (show k < 128 by omega))
        clear hx
        go_wp2_with fail
        refine (rput_int (k : Int) wr (by omega) (by omega)).mono ?_
        rintro e w2 ⟨v2, rfl, hown2, hb2⟩
        rw [Int.toNat_natCast, HP.out] at hown2
        obtain ⟨A2, d2, rfl, hd2, hd22⟩ := slice_of_own hown2
        have hbw2 := hb.trans (hb2.mono hsz)
        have hsz2 := hbw2.size
        have HO2 := Lib.hid (own_below HO.out hb2)
        have HR2 := Lib.hid (Rd.of_own hown2)
        clear hown2 hb2
        go_wp2_with (at_builtin; refine wpList_append_rd _ rfl (.tmp 16) (.tmp 22) 25 rfl w.heap.size 5 i0 (.int .u8 0) 1 1 Try.underlying25 hi hz0 hz1 hz2 rfl (by decide) _ j _ rfl HO2.out w2.heap.size A2 1 d2 (bvs [k]) rfl HR2.out (bvs_one _) (by unfold maxLen; omega) (by omega) (by omega) ?_)
        intro v3 w3 hown3 hg3
        have hb3 : Below w.heap.size w w3 := hbw2.grown hg3 (by omega) (fun k hk => (HO2.out.lt k hk).1)
        clear hg3
        go_wp2
        go_roundw
        case rel => exact ⟨j + 1, by omega, by go_num, by rw [HE.out, bvs_app]; exact hown3, hb3⟩
        case measure => simp [intOf]; omega
      · obtain rfl : j = n := by omega
        have hown := HO.out
        rw [List.take_of_length_le (by have := HLN.out; omega)] at hown
        have HO2 := Lib.hid hown
        clear hown
        go_wp2
        go_ret2
        refine ⟨_, rfl, ?_, hb⟩
        rw [HLN.out]
        exact HO2.out
end Go.Proofs.Ytkagonijkalicaa
