/-
  The walk of the landed tlv's head: what stands ahead of a field's bytes.
-/
import Derived.Test.YtmcbifdfpaooaaaTlMay
import Derived.Test.YtmcbifdfpaooaaaTgMay
namespace Go.Proofs.Ytmcbifdfpaooaaa
open Go.RowKit
open Tl (Fel fit)
open Tg (tput tput_byte tput_ok tput_no tput_len okTag okTag_iff put_tag)
open Vi (put put_len put_byte put_int)

def headOf (f : Fel) : List Nat := if fit f = true then (tput f.num f.wire).1 ++ put (if f.wire = 2 then f.b.length else f.n) else []
theorem headOf_ok {f : Fel} (h : fit f = true) : headOf f = (tput f.num f.wire).1 ++ put (if f.wire = 2 then f.b.length else f.n) := if_pos h
theorem headOf_no {f : Fel} (h : fit f = false) : headOf f = [] := if_neg (by rw [h]; decide)
theorem one_head {f : Fel} (h : fit f = true) : Tl.one f = headOf f ++ f.b := by
  obtain ⟨h1, h2, h3⟩ := Tl.fit_iff.1 h
  rw [headOf_ok h]
  unfold Tl.one
  rcases (okTag_iff.1 h1).2.2 with h0 | h0
  · rw [h0, if_pos rfl, if_neg (by decide), h2 h0]; simp
  · rw [h0, if_neg (by decide), if_pos rfl]; simp
theorem headOf_small (f : Fel) : (headOf f).length ≤ 12 := by
  unfold headOf
  split
  · have h1 := tput_small f.num f.wire
    have h2 := put_len (if f.wire = 2 then f.b.length else f.n)
    rw [List.length_append]; omega
  · simp

set_option maxHeartbeats 4000000 in
set_option maxRecDepth 100000 in
theorem head_any (f : Fel) (s : Option Addr × Nat) (w : World) (hf : Fok f) (hs1 : f.b.length ≤ s.2) (hs2 : s.2 ≤ 9223372036854775807) :
    Calls Try.prog 31 #[aggOf f s] w (NewPair w (headOf f) (if fit f = true then 0 else 1)) := by
  obtain ⟨i0, hi, hz0, hz1, hz2⟩ := info_parts byte_info
  obtain ⟨⟨hn64, hfb⟩, n0, n1, k0, k1, hb17⟩ := hf
  unfold aggOf
  obtain ⟨w0, hw0⟩ : ∃ w0 : World, w0 = w.alloc (.cells #[.int .i64 f.num, .int .i64 f.wire, .int .u64 (f.n : Int), .slice s.1 f.b.length s.2] 39) := ⟨_, rfl⟩
  have hk0 : Blk w0 w.heap.size 39 #[.int .i64 f.num, .int .i64 f.wire, .int .u64 (f.n : Int), .slice s.1 f.b.length s.2] := by rw [hw0]; exact Blk.new _ _ _
  have hb0 : Below w.heap.size w w0 := by rw [hw0]; exact (Below.refl _ _).alloc (Nat.le_refl _) _
  have hs0 : w.heap.size < w0.heap.size := by rw [hw0]; simp
  have HW := Lib.hid hw0
  have HK := Lib.hid hk0
  clear hw0 hk0 hfb
  have hts := tput_small f.num f.wire
  obtain ⟨tb, htb⟩ : ∃ tb, (tput f.num f.wire).1 = tb := ⟨_, rfl⟩
  rw [htb] at hts
  obtain ⟨m, hm⟩ : ∃ m, tb.length = m := ⟨_, rfl⟩
  rw [hm] at hts
  have HT := Lib.hid htb
  have HM := Lib.hid hm
  clear htb hm
  obtain ⟨G, hG⟩ : ∃ G, fit f = G := ⟨_, rfl⟩
  rw [hG]
  have HG := Lib.hid hG
  clear hG
  obtain ⟨er, her⟩ : ∃ er : Int, (if G = true then (0 : Int) else 1) = er := ⟨_, rfl⟩
  rw [her]
  have HE := Lib.hid her
  clear her
  obtain ⟨hd, hhd⟩ : ∃ hd, headOf f = hd := ⟨_, rfl⟩
  rw [hhd]
  have HH := Lib.hid hhd
  clear hhd
  go_enter Try.func31, Try.ntmps31
  go_wp2_with fail
  rw [← HW.out]
  refine (put_tag f.num f.wire w0 n0 n1 k0 k1).mono ?_
  rintro e w1 ⟨v1, rfl, hown1, hb1⟩
  rw [HT.out] at hown1
  rw [HM.out] at hown1
  rw [tput_err]
  obtain ⟨A1, d1, rfl, hd1, hd12⟩ := slice_of_own hown1
  have HO1 := Lib.hid (own_base hown1 (Nat.le_of_lt hs0))
  have hbw1 := hb0.trans (hb1.mono (Nat.le_of_lt hs0))
  have hk1 := HK.out.below hb1 hs0
  have c1 := hk1.cell 1
  have c2 := hk1.cell 2
  have c3 := hk1.cell 3
  simp at c1 c2 c3
  clear hown1 hk1 HK HW hb1 hb0
  have hsz := hbw1.size
  cases ho : okTag f.num f.wire with
  | false =>
    obtain rfl : G = false := by rw [← HG.out]; unfold fit; rw [ho]; rfl
    obtain rfl : hd = [] := by rw [← HH.out]; exact headOf_no HG.out
    obtain rfl : er = 1 := HE.out.symm
    rw [if_neg (by decide)]
    clear ho
    go_wp2
    go_ret2
    exact ⟨_, rfl, World.ownsRow_nil _ _ _ _, hbw1⟩
  | true =>
    have hof := (okTag_iff.1 ho).2.2
    have hfit : fit f = (!(decide (f.wire = 0) && decide (0 < f.b.length)) && !(decide (f.wire = 2) && decide (f.n ≠ 0))) := by unfold fit; rw [ho]; rfl
    have HFI := Lib.hid hfit
    have HOF := Lib.hid hof
    rw [if_pos rfl]
    clear ho hfit hof
    go_upto_region 4 with fail
    go_cut [36] (fun b wx => b = .bool (!G) ∧ wx = w1)
    case first =>
      have hfit := HFI.out
      rcases HOF.out with h0 | h0
      · have q1 : (f.wire == 0) = true := by rw [h0]; rfl
        have q2 : (f.wire == 2) = false := by rw [h0]; rfl
        by_cases hbl : 0 < f.b.length
        · obtain rfl : G = false := by rw [← HG.out, hfit, h0]; simp [hbl]
          clear h0 hfit
          go_wp2
          all_goals
            go_meet
            case rel => exact ⟨rfl, rfl⟩
        · obtain rfl : G = true := by rw [← HG.out, hfit, h0, decide_eq_false hbl]; rfl
          clear h0 hfit
          go_wp2
          all_goals
            go_meet
            case rel => exact ⟨rfl, rfl⟩
      · have q1 : (f.wire == 0) = false := by rw [h0]; rfl
        have q2 : (f.wire == 2) = true := by rw [h0]; rfl
        by_cases hbl : f.n = 0
        · obtain rfl : G = true := by rw [← HG.out, hfit, h0]; simp [hbl]
          have q3 : ((f.n : Int) != 0) = false := by rw [hbl]; rfl
          clear h0 hfit hbl
          go_wp2
          all_goals
            go_meet
            case rel => exact ⟨rfl, rfl⟩
        · obtain rfl : G = false := by rw [← HG.out, hfit, h0]; simp [hbl]
          have q3 : ((f.n : Int) != 0) = true := by rw [bne_iff_ne]; omega
          clear h0 hfit hbl
          go_wp2
          all_goals
            go_meet
            case rel => exact ⟨rfl, rfl⟩
    case rest =>
      obtain ⟨rfl, hwc⟩ := hcut
      have hwc := hwc.symm
      subst hwc
      cases G with
      | false =>
        obtain rfl : hd = [] := by rw [← HH.out]; exact headOf_no HG.out
        obtain rfl : er = 1 := HE.out.symm
        go_wp2
        go_ret2
        exact ⟨_, rfl, World.ownsRow_nil _ _ _ _, hbw1⟩
      | true =>
        obtain rfl : er = 0 := HE.out.symm
        have hhd := headOf_ok HG.out
        rw [HH.out, HT.out] at hhd
        rcases HOF.out with h0 | h0
        · rw [h0, if_neg (by decide)] at hhd
          have q2 : (f.wire == 2) = false := by rw [h0]; rfl
          have HD := Lib.hid hhd
          clear hhd h0
          go_wp2_with fail
          refine (put_int (f.n : Int) w1 (by omega) (by omega)).mono ?_
          rintro e w2 ⟨v2, rfl, hown2, hb2⟩
          rw [Int.toNat_natCast] at hown2
          obtain ⟨A2, d2, rfl, hd2, hd22⟩ := slice_of_own hown2
          have hl2 := put_len f.n
          have hbw2 := hbw1.trans (hb2.mono hsz)
          have hsz2 := hbw2.size
          go_wp2_with (at_builtin; refine wpList_append_rd _ rfl (.tmp 46) (.tmp 48) 37 rfl w.heap.size 5 i0 (.int .u8 0) 1 1 Try.underlying37 hi hz0 hz1 hz2 rfl (by decide) _ m (bvs tb) rfl (own_below HO1.out hb2) w2.heap.size A2 (put f.n).length d2 (bvs (put f.n)) rfl (Rd.of_own hown2) (bvs_one _) (by unfold maxLen; omega) (by omega) (by omega) ?_)
          intro v3 w3 hown3 hg3
          have hb3 : Below w.heap.size w w3 := hbw2.grown hg3 (by omega) (fun k hk => (HO1.out.lt k hk).1)
          go_wp2
          go_ret2
          refine ⟨_, rfl, ?_, hb3⟩
          rw [HD.out, bvs_app, List.length_append, HM.out]
          exact hown3
        · rw [h0, if_pos rfl] at hhd
          have q2 : (f.wire == 2) = true := by rw [h0]; rfl
          obtain ⟨L, hL⟩ : ∃ L, f.b.length = L := ⟨_, rfl⟩
          rw [hL] at hhd hb17 c3
          have HD := Lib.hid hhd
          have t14 : IntKind.u64.wrap (L : Int) = (L : Int) := by rw [IntKind.wrap_u64]; omega
          clear hhd h0 hL
          go_wp2_with fail
          refine (put_int (L : Int) w1 (by omega) (by omega)).mono ?_
          rintro e w2 ⟨v2, rfl, hown2, hb2⟩
          rw [Int.toNat_natCast] at hown2
          obtain ⟨A2, d2, rfl, hd2, hd22⟩ := slice_of_own hown2
          have hl2 := put_len L
          have hbw2 := hbw1.trans (hb2.mono hsz)
          have hsz2 := hbw2.size
          go_wp2_with (at_builtin; refine wpList_append_rd _ rfl (.tmp 46) (.tmp 48) 37 rfl w.heap.size 5 i0 (.int .u8 0) 1 1 Try.underlying37 hi hz0 hz1 hz2 rfl (by decide) _ m (bvs tb) rfl (own_below HO1.out hb2) w2.heap.size A2 (put L).length d2 (bvs (put L)) rfl (Rd.of_own hown2) (bvs_one _) (by unfold maxLen; omega) (by omega) (by omega) ?_)
          intro v3 w3 hown3 hg3
          have hb3 : Below w.heap.size w w3 := hbw2.grown hg3 (by omega) (fun k hk => (HO1.out.lt k hk).1)
          go_wp2
          go_ret2
          refine ⟨_, rfl, ?_, hb3⟩
          rw [HD.out, bvs_app, List.length_append, HM.out]
          exact hown3
end Go.Proofs.Ytmcbifdfpaooaaa
