/-
  The walk of the landed tlv's field: the field that bytes are.
-/
import Derived.Test.YtpbhmhagailhfaaTlTakeP
import Derived.Test.YtpbhmhagailhfaaTlRise
import Derived.Test.YtpbhmhagailhfaaTgProg
namespace Go.Proofs.Ytpbhmhagailhfaa
open Go.RowKit
open Tl (Fel falls takeGo takeRow fieldOf)
open Tg (ttake tskip okTag okTag_iff ttake_back T4 take_tag tagged)
open Vi (take take_back taken take_any)

/-- A whole field's bytes, cut out, are that field's. -/
theorem cut_field {bs : List Nat} {s : Nat} (hb : ∀ c ∈ bs, c < 256) (h : tskip bs = (s, 0)) : tskip (bs.take s) = (s, 0) ∧ fieldOf (bs.take s) = fieldOf bs := by
  obtain ⟨h1, h2, h3, h4, h5, h6⟩ := Tl.fieldOf_back hb h
  have h7 := Tl.skip_one h4 h5 h6 []
  rw [List.append_nil, ← h3] at h7
  rw [List.length_take, Nat.min_eq_left h2] at h7
  exact h7

set_option maxHeartbeats 4000000 in
set_option maxRecDepth 100000 in
theorem field_any (A : Option Addr) (n c : Nat) (bs : List Nat) (w : World) (hb : ∀ c ∈ bs, c < 256) (h : Rd w w.heap.size 1 A n (bvs bs)) (hnc : n ≤ c) (hmax : c ≤ 9223372036854775807) (hn : n ≤ 16384) (hs : tskip bs = (n, 0)) :
    Calls Try.prog 26 #[.slice A n c] w fun e w' => ∃ sp : Option Addr × Nat, e = .returned (aggOf (fieldOf bs) sp) ∧ Rd w' w'.heap.size 1 sp.1 (fieldOf bs).b.length (bvs (fieldOf bs).b) ∧ (fieldOf bs).b.length ≤ sp.2 ∧ sp.2 ≤ 9223372036854775807 ∧
      ((fieldOf bs).b.length = 0 ∨ ∀ ad : Addr, sp.1 = some ad → w.heap.size ≤ ad.block) ∧ Below w.heap.size w w' := by
  obtain ⟨j0, ji, jz0, jz1, jz2⟩ := info_parts byte_info
  have hlen : bs.length = n := by have := h.1; rw [bvs_len] at this; omega
  obtain ⟨num, wire, at_, x, kk, hT4, hX, hnum, hwire, hks, hsl, hs1, hx64, hfo⟩ := take_parts hb hs
  have htk : bs.take n = bs := List.take_of_length_le (by omega)
  rw [htk] at hfo
  have hat : at_ ≤ n := by omega
  have hcut := h.bytes_from hat hnc
  have hsl1 := run_from (P := Try.prog) 23 5 j0 1 Try.underlying23 ji jz1 A n c at_ .i64 hat
  have hsl3 : ∀ w : World, (Instr.sliceAt 23 (.slice A n c) (some (.int .i64 ((at_ : Int) + (kk : Int)))) none none).run Try.prog w = .ok (.slice (cutAt A c 1 (at_ + kk)) (n - (at_ + kk)) (c - (at_ + kk))) w := by
    intro w
    have := run_from (P := Try.prog) 23 5 j0 1 Try.underlying23 ji jz1 A n c (at_ + kk) .i64 hks w
    simpa using this
  have hcut3 := h.bytes_from hks hnc
  have hbd : ∀ c ∈ bs.drop at_, c < 256 := fun c hc => hb c (List.mem_of_mem_drop hc)
  obtain ⟨A2, hA2⟩ : ∃ A2, cutAt A c 1 at_ = A2 := ⟨_, rfl⟩
  obtain ⟨A3, hA3⟩ : ∃ A3, cutAt A c 1 (at_ + kk) = A3 := ⟨_, rfl⟩
  rw [hA2] at hcut
  rw [hA3] at hcut3
  simp only [hA2] at hsl1
  simp only [hA3] at hsl3
  have HT1 := Lib.hid (show tagged (ttake bs) = .tuple #[.int .i64 (num : Int), .int .i64 (wire : Int), .int .i64 (at_ : Int), .int .i64 0] by rw [hT4]; rfl)
  have HX1 := Lib.hid (show taken (take (bs.drop at_)) = .tuple #[.int .u64 (x : Int), .int .i64 (kk : Int), .int .i64 0] by rw [hX]; rfl)
  obtain ⟨f, hf⟩ : ∃ f, fieldOf bs = f := ⟨_, rfl⟩
  rw [hf] at hfo
  rw [hf]
  have HFO := Lib.hid hfo
  have HC1 := Lib.hid hcut
  have HC3 := Lib.hid hcut3
  have HBD := Lib.hid hbd
  have HR := Lib.hid h
  have HB := Lib.hid hb
  clear hA2 hA3 hcut hcut3 hT4 hX hfo hf hbd hs hlen h hb htk
  obtain ⟨w1, hw1⟩ : ∃ w1 : World, w1 = w.alloc (.cells (fblk noneAhead (none, 0)) 39) := ⟨_, rfl⟩
  have hk1 : Blk w1 w.heap.size 39 (fblk noneAhead (none, 0)) := by rw [hw1]; exact Blk.new _ _ _
  have hb1 : Below w.heap.size w w1 := by rw [hw1]; exact (Below.refl _ _).alloc (Nat.le_refl _) _
  have hlt1 : w.heap.size < w1.heap.size := hk1.lt
  have HW1 := Lib.hid hw1
  have HK1 := Lib.hid hk1
  clear hw1 hk1
  go_enter Try.func26, Try.ntmps26
  go_wp2_with fail
  rw [show w.alloc (.cells #[.int .i64 0, .int .i64 0, .int .u64 0, .slice none 0 0] 39) = w1 from HW1.out.symm]
  refine (take_tag A n c bs w1 HB.out ((HR.out.below hb1).more (Nat.le_of_lt hlt1)) hnc hmax).mono ?_
  rintro e w2 ⟨rfl, hb2⟩
  rw [HT1.out]
  have HK2 := Lib.hid (HK1.out.below hb2 hlt1)
  have hbw2 : Below w.heap.size w w2 := hb1.trans (hb2.mono (Nat.le_of_lt hlt1))
  have hlt2 : w.heap.size < w2.heap.size := Nat.lt_of_lt_of_le hlt1 hb2.size
  clear hb2 HK1 HW1 HT1
  go_wp2_with fail
  refine (take_any A2 (n - at_) (c - at_) w2.heap.size (bs.drop at_) w2 HBD.out ((HC1.out.below hbw2).more (Nat.le_of_lt hlt2)) (by omega)).mono ?_
  rintro e w3 ⟨rfl, rfl⟩
  rw [HX1.out]
  have hk2 := HK2.out
  have y0 := hk2.cell 0
  have y1 := hk2.cell 1
  have y2 := hk2.cell 2
  have y3 := hk2.cell 3
  have z0 := hk2.frozen 0
  have z1 := hk2.frozen 1
  have z2 := hk2.frozen 2
  have z3 := hk2.frozen 3
  simp [fblk] at y0 y1 y2 y3
  clear hk2
  rcases hwire with rfl | rfl
  · have hfo := HFO.out
    rw [if_pos rfl] at hfo
    have HFO2 := Lib.hid hfo
    clear hfo
    go_wp2
    (try simp only [Exit.inBlock, Exit.then])
    have h1 := (((HK2.out.put 0 (.int .i64 (num : Int))).put 1 (.int .i64 0)).put 2 (.int .u64 (x : Int))).put 3 (.slice none 0 0)
    have hb4 : Below w.heap.size w ((((w2.setCell ⟨w.heap.size, 0, none⟩ (.int .i64 (num : Int))).setCell ⟨w.heap.size, 1, none⟩ (.int .i64 0)).setCell ⟨w.heap.size, 2, none⟩ (.int .u64 (x : Int))).setCell ⟨w.heap.size, 3, none⟩ (.slice none 0 0)) :=
      (((hbw2.setCell (Nat.le_refl _) _).setCell (Nat.le_refl _) _).setCell (Nat.le_refl _) _).setCell (Nat.le_refl _) _
    rw [HFO2.out]
    exact bodyPost_ret (results_cell_row rfl _ _ w.heap.size 39 (fblk ⟨(num : Int), 0, x, []⟩ (none, 0)) (0, 0) _ rfl (by simpa [fblk, Blk] using h1) Try.underlying39 rfl (by kernel_rfl)) rfl
      ⟨(none, 0), rfl, Rd.nil _ _ _ _, by simp, by simp, .inl rfl, hb4⟩
  · have hfo := HFO.out
    rw [if_neg (by decide)] at hfo
    obtain ⟨ys, hys⟩ : ∃ ys, bs.drop (at_ + kk) = ys := ⟨_, rfl⟩
    have hr3 := HC3.out
    rw [hys] at hfo hr3
    have hyl : ys.length = n - (at_ + kk) := by have := hr3.1; rw [bvs_len] at this; omega
    obtain ⟨L, hL⟩ : ∃ L, n - (at_ + kk) = L := ⟨_, rfl⟩
    rw [hL] at hyl hr3 hsl3
    have HFO2 := Lib.hid hfo
    have HR3 := Lib.hid ((hr3.below hbw2).more (Nat.le_of_lt hlt2))
    have HYL := Lib.hid hyl
    have hL16 : L ≤ 16384 := by omega
    clear hfo hys hyl hr3 hL
    go_wp2_with (at_builtin; refine wpList_append_rd _ rfl (.const (.slice none 0 0)) (.tmp 37) 23 rfl w2.heap.size 5 j0 (.int .u8 0) 1 1 Try.underlying23 ji jz0 jz1 jz2 rfl (by decide) _ 0 [] rfl (World.ownsRow_nil _ _ _ _) w2.heap.size A3 L (c - (at_ + kk)) (bvs ys) rfl HR3.out (bvs_one _) (by unfold maxLen; omega) (by omega) (by simp) ?_)
    intro v5 w5 hown5 hg5
    have hb5 : Below w2.heap.size w2 w5 := (Below.refl _ _).grown hg5 (by simp) (fun k hk => by simp [Value.ownBlock] at hk)
    have hown5' : w5.ownsRow w2.heap.size 5 1 v5 L (bvs ys) := by simpa using hown5
    obtain ⟨A5, c5, rfl, hc5, hc52⟩ := slice_of_own hown5'
    have hk5 := HK2.out.below hb5 hlt2
    have hbw5 : Below w.heap.size w w5 := hbw2.trans (hb5.mono (Nat.le_of_lt hlt2))
    clear y0 y1 y2 y3 z0 z1 z2 z3
    have y0 := hk5.cell 0
    have y1 := hk5.cell 1
    have y2 := hk5.cell 2
    have y3 := hk5.cell 3
    have z0 := hk5.frozen 0
    have z1 := hk5.frozen 1
    have z2 := hk5.frozen 2
    have z3 := hk5.frozen 3
    simp [fblk] at y0 y1 y2 y3
    have HO5 := Lib.hid hown5'
    have HK5 := Lib.hid hk5
    clear hown5 hg5 hown5' hk5 hb5
    go_wp2
    (try simp only [Exit.inBlock, Exit.then])
    have h1 := (((HK5.out.put 0 (.int .i64 (num : Int))).put 1 (.int .i64 2)).put 2 (.int .u64 0)).put 3 (.slice A5 L c5)
    obtain ⟨w6, hw6⟩ : ∃ w6, w6 = ((((w5.setCell ⟨w.heap.size, 0, none⟩ (.int .i64 (num : Int))).setCell ⟨w.heap.size, 1, none⟩ (.int .i64 2)).setCell ⟨w.heap.size, 2, none⟩ (.int .u64 0)).setCell ⟨w.heap.size, 3, none⟩ (.slice A5 L c5)) := ⟨_, rfl⟩
    rw [← hw6] at h1
    have hb6 : Below w.heap.size w w6 := by
      rw [hw6]
      exact (((hbw5.setCell (Nat.le_refl _) _).setCell (Nat.le_refl _) _).setCell (Nat.le_refl _) _).setCell (Nat.le_refl _) _
    have hg6 : w5.grownBy w6 (some w.heap.size) := by
      rw [hw6]
      exact (((grown_set _ _ _ _).trans (grown_set _ _ _ _)).trans (grown_set _ _ _ _)).trans (grown_set _ _ _ _)
    have hr6 : Rd w6 w5.heap.size 1 A5 L (bvs ys) := (Rd.of_own HO5.out).grown (Nat.le_refl _) hg6 (.inr fun ad had => by
      have := own_at HO5.out ad had
      simp; omega)
    have hr7 := hr6.more hg6.size
    rw [HFO2.out]
    rw [← hw6]
    exact bodyPost_ret (results_cell_row rfl _ _ w.heap.size 39 (fblk ⟨(num : Int), 2, 0, ys⟩ (A5, c5)) (0, 0) _ rfl (by simpa [fblk, Blk, HYL.out] using h1) Try.underlying39 rfl (by kernel_rfl)) rfl
      ⟨(A5, c5), rfl, by simp only []; rw [HYL.out]; exact hr7, by simp only []; rw [HYL.out]; exact hc5, hc52, .inr fun ad had => by have := own_at HO5.out ad had; omega, hb6⟩
end Go.Proofs.Ytpbhmhagailhfaa
