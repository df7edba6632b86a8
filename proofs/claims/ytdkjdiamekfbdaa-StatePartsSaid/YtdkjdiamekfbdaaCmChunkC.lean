/-
  The walk of the landed command.Chunks.
-/
import Derived.Test.YtdkjdiamekfbdaaCmSpanW
import Derived.Test.YtdkjdiamekfbdaaCmOneB
import Derived.Test.YtdkjdiamekfbdaaViPut
import Derived.Test.YtdkjdiamekfbdaaTgPlain
namespace Go.Proofs.Ytdkjdiamekfbdaa
open Go.RowKit
open Cm (inR inR_iff Span riseGo riseGo_step row_rise row row_mem chunksB)
open Vi (put put_len put_byte put_int)

set_option maxHeartbeats 1000000 in
set_option maxRecDepth 100000 in
theorem chunks_c0 (A : Option Addr) (n c : Nat) (l : List Int) (w : World) (h : Rd w w.heap.size 1 A n (ivs l)) (hnc : n ≤ c) (hmax : c ≤ 9223372036854775807) :
    Calls Try.prog 75 #[.slice A n c] w (NewPair w (chunksB l).1 ((chunksB l).2 : Nat)) := by
  obtain ⟨i0, hi, hz0, hz1, hz2⟩ := info_parts byte_info
  have hlen : l.length = n := by have := h.1; rw [ivs_len] at this; omega
  have hrr := row_rise l
  rw [hlen] at hrr
  obtain ⟨P, hP⟩ : ∃ P, chunksB l = P := ⟨_, rfl⟩
  rw [hP]
  have HP := Lib.hid hP
  have HRR := Lib.hid hrr
  have HR := Lib.hid h
  have HL := Lib.hid hlen
  clear h hlen hrr hP
  go_enter Try.func75, Try.ntmps75
  go_wp2_with fail
  refine (rowlen_any w).mono ?_
  rintro e w1 ⟨rfl, hb1⟩
  have hs1 := hb1.size
  go_wp2_with fail
  refine (holds_any ⟨1, 8⟩ (n : Int) w1).mono ?_
  rintro e w2 ⟨rfl, hb2⟩
  replace hb1 := hb1.trans (hb2.mono hs1)
  have hs2 := hb1.size
  clear hb2
  obtain ⟨B, hB⟩ : ∃ B, Cm.Span.holds ⟨1, 8⟩ (n : Int) = B := ⟨_, rfl⟩
  rw [hB]
  have hB2 : inR (n : Int) 1 8 = B := hB
  have hrr := HRR.out
  rw [hB2] at hrr
  clear hB hB2 HRR
  cases B with
  | false =>
    obtain rfl : P = ([], 1) := by rw [← HP.out]; unfold chunksB; rw [hrr]; rfl
    clear hrr
    go_wp2
    go_ret2
    exact ⟨_, rfl, World.ownsRow_nil _ _ _ _, hb1⟩
  | true =>
    rw [Bool.true_and] at hrr
    have HRR := Lib.hid hrr
    clear hrr
    go_wp2_with fail
    refine (rise_chunks A n c l w2 ((HR.out.below hb1).more hb1.size) hnc hmax).mono ?_
    rintro e w3 ⟨rfl, hb3⟩
    replace hb1 := hb1.trans (hb3.mono hs2)
    replace hs2 := hb1.size
    clear hb3
    rw [← HRR.out]
    cases hrow : row l with
    | false =>
      obtain rfl : P = ([], 1) := by rw [← HP.out]; unfold chunksB; rw [hrow]; rfl
      clear hrow HRR
      go_wp2
      go_ret2
      exact ⟨_, rfl, World.ownsRow_nil _ _ _ _, hb1⟩
    | true =>
      obtain rfl : P = (l.map Int.toNat, 0) := by rw [← HP.out]; unfold chunksB; rw [hrow]; rfl
      obtain ⟨L, hL⟩ : ∃ L, l.map Int.toNat = L := ⟨_, rfl⟩
      have HLL := Lib.hid hL
      have HLN := Lib.hid (show L.length = n by rw [← hL, List.length_map, HL.out])
      rw [hL]
      clear hL
      obtain ⟨hmem, h1, h8⟩ := row_mem hrow
      have HM := Lib.hid hmem
      rw [HL.out] at h1 h8
      clear hmem hrow HRR HP
      go_wp2
      go_loopw [4, 19] (fun v i wr => ∃ j : Nat, j ≤ n ∧ i = .int .i64 (j : Int) ∧ wr.ownsRow w.heap.size 5 1 v j (bvs (L.take j)) ∧ Below w.heap.size w wr) (fun _ i _ => n - (intOf i).toNat)
      case atStart => exact ⟨0, Nat.zero_le _, rfl, World.ownsRow_nil _ _ _ _, hb1⟩
      case round =>
        obtain ⟨j, hj, rfl, hown, hb⟩ := hrel
        have HO := Lib.hid hown
        have hsz := hb.size
        clear hown
        by_cases hlt : j < n
        · obtain ⟨ad, x, rfl, hab, hx, g0⟩ := (HR.out.below hb).int hlt
          obtain ⟨hx1, hx64⟩ := HM.out x (List.mem_of_getElem? hx)
          obtain ⟨k, rfl⟩ : ∃ k : Nat, x = (k : Int) := ⟨x.toNat, by omega⟩
          have HE := Lib.hid (show L.take (j + 1) = L.take j ++ [k] by rw [← HLL.out, List.take_add_one, List.getElem?_map, hx]; rfl)
          have t14 : IntKind.u64.wrap (k : Int) = (k : Int) := by rw [IntKind.wrap_u64]; omega
          have HP := Lib.hid (put_one (show k < 128 by omega))
          clear hx
          go_wp2_with fail
          refine (put_int (k : Int) wr (by omega) (by omega)).mono ?_
          rintro e w4 ⟨v2, rfl, hown2, hb2⟩
          rw [Int.toNat_natCast, HP.out] at hown2
          obtain ⟨A2, d2, rfl, hd2, hd22⟩ := slice_of_own hown2
          have hbw2 := hb.trans (hb2.mono hsz)
          have hsz2 := hbw2.size
          have HO2 := Lib.hid (own_below HO.out hb2)
          have HR2 := Lib.hid (Rd.of_own hown2)
          clear hown2 hb2
          go_wp2_with (at_builtin; refine wpList_append_rd _ rfl (.tmp 23) (.tmp 26) 85 rfl w.heap.size 5 i0 (.int .u8 0) 1 1 Try.underlying85 hi hz0 hz1 hz2 rfl (by decide) _ j _ rfl HO2.out w4.heap.size A2 1 d2 (bvs [k]) rfl HR2.out (bvs_one _) (by unfold maxLen; omega) (by omega) (by omega) ?_)
          intro v3 w5 hown3 hg3
          have hb3 : Below w.heap.size w w5 := hbw2.grown hg3 (by omega) (fun k hk => (HO2.out.lt k hk).1)
          clear hg3
          go_wp2
          go_roundw
          case rel => exact ⟨j + 1, by omega, by go_num, by rw [HE.out, bvs_app]; exact hown3, hb3⟩
          case measure => simp [intOf]; omega
        · obtain rfl : j = n := by omega
          have hown := HO.out
          rw [List.take_of_length_le (by have := HLN.out; omega)] at hown
          have HO2 := Lib.hid hown
          clear hown
          go_wp2
          go_ret2
          refine ⟨_, rfl, ?_, hb⟩
          rw [HLL.out, HLN.out]
          exact HO2.out

theorem chunks_c (A : Option Addr) (n c : Nat) (l : List Int) (w : World) (h : Rd w w.heap.size 1 A n (ivs l)) (hnc : n ≤ c) (hmax : c ≤ 9223372036854775807) (_hn : n ≤ 20000) (_hl : ∀ x ∈ l, I64 x) :
    Calls Try.prog 75 #[.slice A n c] w (NewPair w (chunksB l).1 ((chunksB l).2 : Nat)) := chunks_c0 A n c l w h hnc hmax
end Go.Proofs.Ytdkjdiamekfbdaa
