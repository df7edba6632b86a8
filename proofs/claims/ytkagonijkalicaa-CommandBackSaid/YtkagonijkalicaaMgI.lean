/-
  Several texts in one: TlRise, TlField, TlHead, TlPMay, TlPTake, TlPPut, TlPSplit.
-/
import Derived.Test.YtkagonijkalicaaMgB
import Derived.Deep.DeepCutAuto
import Derived.Deep.AppendLies
import Derived.Test.YtkagonijkalicaaMgF
import Derived.Test.YtkagonijkalicaaMgH
import Derived.Test.YtkagonijkalicaaMgG
set_option linter.unusedVariables false
set_option linter.unusedSimpArgs false

/-
  The walks of the landed tlv's rising and its closure.
-/
namespace Go.Proofs.Ytkagonijkalicaa
open Go.RowKit
open Tl (Fel)

/-- The closure that goes along a row, and the field that it keeps. -/
def riseOf (g : Nat) : Value := .func (.func 86) #[] #[.pointer (some ⟨g, 0, none⟩)]
def fblk (f : Fel) (s : Option Addr × Nat) : Array Value := #[.int .i64 f.num, .int .i64 f.wire, .int .u64 (f.n : Int), .slice s.1 f.b.length s.2]
def noneAhead : Fel := ⟨0, 0, 0, []⟩

set_option maxRecDepth 100000 in
theorem rising_any (w : World) : Calls Try.prog 72 #[] w fun e w' => e = .returned (riseOf w.heap.size) ∧ w' = w.alloc (.cells (fblk noneAhead (none, 0)) 55) := by
  have hmf : ∀ (fn : Fn) (first cap : Array Value) (w : World), (Instr.makeFunc fn first cap).run Try.prog w = .ok (.func fn first cap) w := fun _ _ _ _ => rfl
  go_enter Try.func72, Try.ntmps72
  go_wp2
  go_ret
  exact ⟨rfl, rfl⟩

theorem grown_set (w : World) (g i : Nat) (v : Value) : w.grownBy (w.setCell ⟨g, i, none⟩ v) (some g) :=
  ⟨rfl, rfl, rfl, by simp [World.setCell], fun k _ hk => Below.heap_setCell w ⟨g, i, none⟩ v k (by simpa using hk)⟩

theorem falls_not (p f : Fel) : (!Tl.falls p f) = (decide (p.num < f.num) || decide (f.num = p.num) && (decide (f.wire = 2) && decide (p.wire = 2))) := by
  unfold Tl.falls
  by_cases h1 : f.num < p.num
  · rw [decide_eq_true h1, decide_eq_false (show ¬ p.num < f.num by omega), decide_eq_false (show ¬ f.num = p.num by omega)]; rfl
  · by_cases h2 : f.num = p.num
    · rw [decide_eq_false h1, decide_eq_true h2, decide_eq_false (show ¬ p.num < f.num by omega)]
      by_cases h3 : p.wire = 2
      · by_cases h4 : f.wire = 2
        · simp [h3, h4]
        · simp [h3, h4]
      · simp [h3]
    · rw [decide_eq_false h1, decide_eq_false h2, decide_eq_true (show p.num < f.num by omega)]; rfl

set_option maxHeartbeats 1000000 in
set_option maxRecDepth 100000 in
theorem rise_any (g : Nat) (p f : Fel) (sp s : Option Addr × Nat) (w : World) (hk : Blk w g 55 (fblk p sp)) :
    Calls Try.prog 86 #[aggOf f s, .pointer (some ⟨g, 0, none⟩)] w fun e w' => e = .returned (.bool (!Tl.falls p f)) ∧ w.grownBy w' (some g) ∧ Blk w' g 55 (fblk f s) := by
  unfold aggOf
  have hlt := hk.lt
  have hkk := hk.alloc (.cells #[.int .i64 f.num, .int .i64 f.wire, .int .u64 (f.n : Int), .slice s.1 f.b.length s.2] 55)
  have c0 := hkk.cell 0
  have c1 := hkk.cell 1
  have z0 := hkk.frozen 0
  have z1 := hkk.frozen 1
  have z2 := hkk.frozen 2
  have z3 := hkk.frozen 3
  simp [fblk] at c0 c1
  have k0 := hk.cell 0
  have k1 := hk.cell 1
  have k2 := hk.cell 2
  have k3 := hk.cell 3
  have y0 := hk.frozen 0
  have y1 := hk.frozen 1
  have y2 := hk.frozen 2
  have y3 := hk.frozen 3
  simp [fblk] at k0 k1 k2 k3
  have HK := Lib.hid hk
  have hG := falls_not p f
  obtain ⟨M, hM⟩ : ∃ M, (decide (f.wire = 2) && decide (p.wire = 2)) = M := ⟨_, rfl⟩
  obtain ⟨D, hD⟩ : ∃ D, (!Tl.falls p f) = D := ⟨_, rfl⟩
  rw [hM, hD] at hG
  rw [hD]
  have HM := Lib.hid hM
  have HG := Lib.hid hG
  clear hM hG hD hk hkk
  go_enter Try.func86, Try.ntmps86
  go_upto_region 1 with fail
  go_cut [4] (fun b wx => b = .bool M ∧ wx = w.alloc (.cells #[.int .i64 f.num, .int .i64 f.wire, .int .u64 (f.n : Int), .slice s.1 f.b.length s.2] 55))
  case first =>
    have hM := HM.out
    by_cases h3 : f.wire = 2
    · have q3 : (f.wire == 2) = true := by rw [h3]; rfl
      by_cases h4 : p.wire = 2
      · have q4 : (p.wire == 2) = true := by rw [h4]; rfl
        obtain rfl : true = M := by rw [← hM, h3, h4]; rfl
        clear h3 h4 hM
        go_wp2
        go_meet
        case rel => exact ⟨rfl, rfl⟩
      · have q4 : (p.wire == 2) = false := by rw [beq_eq_false_iff_ne]; exact h4
        obtain rfl : false = M := by rw [← hM, decide_eq_false h4]; simp
        clear h3 h4 hM
        go_wp2
        go_meet
        case rel => exact ⟨rfl, rfl⟩
    · have q3 : (f.wire == 2) = false := by rw [beq_eq_false_iff_ne]; exact h3
      obtain rfl : false = M := by rw [← hM, decide_eq_false h3]; simp
      clear h3 hM
      go_wp2
      go_meet
      case rel => exact ⟨rfl, rfl⟩
  case rest =>
    obtain ⟨rfl, rfl⟩ := hcut
    go_upto_region 2 with fail
    go_cut [5] (fun b wx => b = .bool D ∧ wx = w.alloc (.cells #[.int .i64 f.num, .int .i64 f.wire, .int .u64 (f.n : Int), .slice s.1 f.b.length s.2] 55))
    case first =>
      have hG := HG.out
      by_cases h3 : p.num < f.num
      · obtain rfl : D = true := by rw [hG, decide_eq_true h3]; rfl
        clear hG
        go_wp2
        go_meet
        case rel => exact ⟨rfl, rfl⟩
      · by_cases h4 : f.num = p.num
        · have q4 : (f.num == p.num) = true := by rw [h4]; simp
          obtain rfl : D = M := by rw [hG, decide_eq_false h3, decide_eq_true h4]; simp
          clear hG h4
          go_wp2
          go_meet
          case rel => exact ⟨rfl, rfl⟩
        · have q4 : (f.num == p.num) = false := by rw [beq_eq_false_iff_ne]; exact h4
          obtain rfl : D = false := by rw [hG, decide_eq_false h3, decide_eq_false h4]; rfl
          clear hG h4
          go_wp2
          go_meet
          case rel => exact ⟨rfl, rfl⟩
    case rest =>
      obtain ⟨rfl, rfl⟩ := hcut
      go_wp2
      go_ret
      refine ⟨rfl, ?_, ?_⟩
      · exact ((((grown_set _ _ _ _).trans (grown_set _ _ _ _)).trans (grown_set _ _ _ _)).trans (grown_set _ _ _ _)).trans (World.grownBy_alloc _ _ _)
      · have h1 := (((HK.out.put 0 (.int .i64 f.num)).put 1 (.int .i64 f.wire)).put 2 (.int .u64 (f.n : Int))).put 3 (.slice s.1 f.b.length s.2)
        exact Blk.alloc (by simpa [fblk] using h1) _
end Go.Proofs.Ytkagonijkalicaa

/-
  The walk of the landed tlv's field: the field that bytes are.
-/
namespace Go.Proofs.Ytkagonijkalicaa
open Go.RowKit
open Tl (Fel falls takeGo takeRow fieldOf)
open Tg (ttake tskip okTag okTag_iff ttake_back T4 take_tag tagged)
open Vi (take take_back taken take_any)

/-- A whole field's bytes, cut out, are that field's. -/
theorem cut_field {bs : List Nat} {s : Nat} (hb : ∀ c ∈ bs, c < 256) (h : tskip bs = (s, 0)) : tskip (bs.take s) = (s, 0) ∧ fieldOf (bs.take s) = fieldOf bs := by
  obtain ⟨h1, h2, h3, h4, h5, h6⟩ := Tl.fieldOf_back hb h
  have h7 := Tl.skip_one h4 h5 h6 []
  rw [List.append_nil, ← h3] at h7
  rw [List.length_take, Nat.min_eq_left h2] at h7
  exact h7

set_option maxHeartbeats 4000000 in
set_option maxRecDepth 100000 in
theorem field_any (A : Option Addr) (n c : Nat) (bs : List Nat) (w : World) (hb : ∀ c ∈ bs, c < 256) (h : Rd w w.heap.size 1 A n (bvs bs)) (hnc : n ≤ c) (hmax : c ≤ 9223372036854775807) (hn : n ≤ 16384) (hs : tskip bs = (n, 0)) :
    Calls Try.prog 74 #[.slice A n c] w fun e w' => ∃ sp : Option Addr × Nat, e = .returned (aggOf (fieldOf bs) sp) ∧ Rd w' w'.heap.size 1 sp.1 (fieldOf bs).b.length (bvs (fieldOf bs).b) ∧ (fieldOf bs).b.length ≤ sp.2 ∧ sp.2 ≤ 9223372036854775807 ∧
      ((fieldOf bs).b.length = 0 ∨ ∀ ad : Addr, sp.1 = some ad → w.heap.size ≤ ad.block) ∧ Below w.heap.size w w' := by
  obtain ⟨j0, ji, jz0, jz1, jz2⟩ := info_parts byte_info
  have hlen : bs.length = n := by have := h.1; rw [bvs_len] at this; omega
  obtain ⟨num, wire, at_, x, kk, hT4, hX, hnum, hwire, hks, hsl, hs1, hx64, hfo⟩ := take_parts hb hs
  have htk : bs.take n = bs := List.take_of_length_le (by omega)
  rw [htk] at hfo
  have hat : at_ ≤ n := by omega
  have hcut := h.bytes_from hat hnc
  have hsl1 := run_from (P := Try.prog) 25 5 j0 1 Try.underlying25 ji jz1 A n c at_ .i64 hat
  have hsl3 : ∀ w : World, (Instr.sliceAt 25 (.slice A n c) (some (.int .i64 ((at_ : Int) + (kk : Int)))) none none).run Try.prog w = .ok (.slice (cutAt A c 1 (at_ + kk)) (n - (at_ + kk)) (c - (at_ + kk))) w := by
    intro w
    have := run_from (P := Try.prog) 25 5 j0 1 Try.underlying25 ji jz1 A n c (at_ + kk) .i64 hks w
    simpa using this
  have hcut3 := h.bytes_from hks hnc
  have hbd : ∀ c ∈ bs.drop at_, c < 256 := fun c hc => hb c (List.mem_of_mem_drop hc)
  obtain ⟨A2, hA2⟩ : ∃ A2, cutAt A c 1 at_ = A2 := ⟨_, rfl⟩
  obtain ⟨A3, hA3⟩ : ∃ A3, cutAt A c 1 (at_ + kk) = A3 := ⟨_, rfl⟩
  rw [hA2] at hcut
  rw [hA3] at hcut3
  simp only [hA2] at hsl1
  simp only [hA3] at hsl3
  have HT1 := Lib.hid (show tagged (ttake bs) = .tuple #[.int .i64 (num : Int), .int .i64 (wire : Int), .int .i64 (at_ : Int), .int .i64 0] by rw [hT4]; rfl)
  have HX1 := Lib.hid (show taken (take (bs.drop at_)) = .tuple #[.int .u64 (x : Int), .int .i64 (kk : Int), .int .i64 0] by rw [hX]; rfl)
  obtain ⟨f, hf⟩ : ∃ f, fieldOf bs = f := ⟨_, rfl⟩
  rw [hf] at hfo
  rw [hf]
  have HFO := Lib.hid hfo
  have HC1 := Lib.hid hcut
  have HC3 := Lib.hid hcut3
  have HBD := Lib.hid hbd
  have HR := Lib.hid h
  have HB := Lib.hid hb
  clear hA2 hA3 hcut hcut3 hT4 hX hfo hf hbd hs hlen h hb htk
  obtain ⟨w1, hw1⟩ : ∃ w1 : World, w1 = w.alloc (.cells (fblk noneAhead (none, 0)) 55) := ⟨_, rfl⟩
  have hk1 : Blk w1 w.heap.size 55 (fblk noneAhead (none, 0)) := by rw [hw1]; exact Blk.new _ _ _
  have hb1 : Below w.heap.size w w1 := by rw [hw1]; exact (Below.refl _ _).alloc (Nat.le_refl _) _
  have hlt1 : w.heap.size < w1.heap.size := hk1.lt
  have HW1 := Lib.hid hw1
  have HK1 := Lib.hid hk1
  clear hw1 hk1
  go_enter Try.func74, Try.ntmps74
  go_wp2_with fail
  rw [show w.alloc (.cells #[.int .i64 0, .int .i64 0, .int .u64 0, .slice none 0 0] 55) = w1 from HW1.out.symm]
  refine (take_tag A n c bs w1 HB.out ((HR.out.below hb1).more (Nat.le_of_lt hlt1)) hnc hmax).mono ?_
  rintro e w2 ⟨rfl, hb2⟩
  rw [HT1.out]
  have HK2 := Lib.hid (HK1.out.below hb2 hlt1)
  have hbw2 : Below w.heap.size w w2 := hb1.trans (hb2.mono (Nat.le_of_lt hlt1))
  have hlt2 : w.heap.size < w2.heap.size := Nat.lt_of_lt_of_le hlt1 hb2.size
  clear hb2 HK1 HW1 HT1
  go_wp2_with fail
  refine (take_any A2 (n - at_) (c - at_) w2.heap.size (bs.drop at_) w2 HBD.out ((HC1.out.below hbw2).more (Nat.le_of_lt hlt2)) (by omega)).mono ?_
  rintro e w3 ⟨rfl, rfl⟩
  rw [HX1.out]
  have hk2 := HK2.out
  have y0 := hk2.cell 0
  have y1 := hk2.cell 1
  have y2 := hk2.cell 2
  have y3 := hk2.cell 3
  have z0 := hk2.frozen 0
  have z1 := hk2.frozen 1
  have z2 := hk2.frozen 2
  have z3 := hk2.frozen 3
  simp [fblk] at y0 y1 y2 y3
  clear hk2
  rcases hwire with rfl | rfl
  · have hfo := HFO.out
    rw [if_pos rfl] at hfo
    have HFO2 := Lib.hid hfo
    clear hfo
    go_wp2
    (try simp only [Exit.inBlock, Exit.then])
    have h1 := (((HK2.out.put 0 (.int .i64 (num : Int))).put 1 (.int .i64 0)).put 2 (.int .u64 (x : Int))).put 3 (.slice none 0 0)
    have hb4 : Below w.heap.size w ((((w2.setCell ⟨w.heap.size, 0, none⟩ (.int .i64 (num : Int))).setCell ⟨w.heap.size, 1, none⟩ (.int .i64 0)).setCell ⟨w.heap.size, 2, none⟩ (.int .u64 (x : Int))).setCell ⟨w.heap.size, 3, none⟩ (.slice none 0 0)) :=
      (((hbw2.setCell (Nat.le_refl _) _).setCell (Nat.le_refl _) _).setCell (Nat.le_refl _) _).setCell (Nat.le_refl _) _
    rw [HFO2.out]
    exact bodyPost_ret (results_cell_row rfl _ _ w.heap.size 55 (fblk ⟨(num : Int), 0, x, []⟩ (none, 0)) (0, 0) _ rfl (by simpa [fblk, Blk] using h1) Try.underlying55 rfl (by kernel_rfl)) rfl
      ⟨(none, 0), rfl, Rd.nil _ _ _ _, by simp, by simp, .inl rfl, hb4⟩
  · have hfo := HFO.out
    rw [if_neg (by decide)] at hfo
    obtain ⟨ys, hys⟩ : ∃ ys, bs.drop (at_ + kk) = ys := ⟨_, rfl⟩
    have hr3 := HC3.out
    rw [hys] at hfo hr3
    have hyl : ys.length = n - (at_ + kk) := by have := hr3.1; rw [bvs_len] at this; omega
    obtain ⟨L, hL⟩ : ∃ L, n - (at_ + kk) = L := ⟨_, rfl⟩
    rw [hL] at hyl hr3 hsl3
    have HFO2 := Lib.hid hfo
    have HR3 := Lib.hid ((hr3.below hbw2).more (Nat.le_of_lt hlt2))
    have HYL := Lib.hid hyl
    have hL16 : L ≤ 16384 := by omega
    clear hfo hys hyl hr3 hL
    go_wp2_with (at_builtin; refine wpList_append_rd _ rfl (.const (.slice none 0 0)) (.tmp 37) 25 rfl w2.heap.size 5 j0 (.int .u8 0) 1 1 Try.underlying25 ji jz0 jz1 jz2 rfl (by decide) _ 0 [] rfl (World.ownsRow_nil _ _ _ _) w2.heap.size A3 L (c - (at_ + kk)) (bvs ys) rfl HR3.out (bvs_one _) (by unfold maxLen; omega) (by omega) (by simp) ?_)
    intro v5 w5 hown5 hg5
    have hb5 : Below w2.heap.size w2 w5 := (Below.refl _ _).grown hg5 (by simp) (fun k hk => by simp [Value.ownBlock] at hk)
    have hown5' : w5.ownsRow w2.heap.size 5 1 v5 L (bvs ys) := by simpa using hown5
    obtain ⟨A5, c5, rfl, hc5, hc52⟩ := slice_of_own hown5'
    have hk5 := HK2.out.below hb5 hlt2
    have hbw5 : Below w.heap.size w w5 := hbw2.trans (hb5.mono (Nat.le_of_lt hlt2))
    clear y0 y1 y2 y3 z0 z1 z2 z3
    have y0 := hk5.cell 0
    have y1 := hk5.cell 1
    have y2 := hk5.cell 2
    have y3 := hk5.cell 3
    have z0 := hk5.frozen 0
    have z1 := hk5.frozen 1
    have z2 := hk5.frozen 2
    have z3 := hk5.frozen 3
    simp [fblk] at y0 y1 y2 y3
    have HO5 := Lib.hid hown5'
    have HK5 := Lib.hid hk5
    clear hown5 hg5 hown5' hk5 hb5
    go_wp2
    (try simp only [Exit.inBlock, Exit.then])
    have h1 := (((HK5.out.put 0 (.int .i64 (num : Int))).put 1 (.int .i64 2)).put 2 (.int .u64 0)).put 3 (.slice A5 L c5)
    obtain ⟨w6, hw6⟩ : ∃ w6, w6 = ((((w5.setCell ⟨w.heap.size, 0, none⟩ (.int .i64 (num : Int))).setCell ⟨w.heap.size, 1, none⟩ (.int .i64 2)).setCell ⟨w.heap.size, 2, none⟩ (.int .u64 0)).setCell ⟨w.heap.size, 3, none⟩ (.slice A5 L c5)) := ⟨_, rfl⟩
    rw [← hw6] at h1
    have hb6 : Below w.heap.size w w6 := by
      rw [hw6]
      exact (((hbw5.setCell (Nat.le_refl _) _).setCell (Nat.le_refl _) _).setCell (Nat.le_refl _) _).setCell (Nat.le_refl _) _
    have hg6 : w5.grownBy w6 (some w.heap.size) := by
      rw [hw6]
      exact (((grown_set _ _ _ _).trans (grown_set _ _ _ _)).trans (grown_set _ _ _ _)).trans (grown_set _ _ _ _)
    have hr6 : Rd w6 w5.heap.size 1 A5 L (bvs ys) := (Rd.of_own HO5.out).grown (Nat.le_refl _) hg6 (.inr fun ad had => by
      have := own_at HO5.out ad had
      simp; omega)
    have hr7 := hr6.more hg6.size
    rw [HFO2.out]
    rw [← hw6]
    exact bodyPost_ret (results_cell_row rfl _ _ w.heap.size 55 (fblk ⟨(num : Int), 2, 0, ys⟩ (A5, c5)) (0, 0) _ rfl (by simpa [fblk, Blk, HYL.out] using h1) Try.underlying55 rfl (by kernel_rfl)) rfl
      ⟨(A5, c5), rfl, by simp only []; rw [HYL.out]; exact hr7, by simp only []; rw [HYL.out]; exact hc5, hc52, .inr fun ad had => by have := own_at HO5.out ad had; omega, hb6⟩
end Go.Proofs.Ytkagonijkalicaa

/-
  The walk of the landed tlv's head: what stands ahead of a field's bytes.
-/
namespace Go.Proofs.Ytkagonijkalicaa
open Go.RowKit
open Tl (Fel fit)
open Tg (tput tput_byte tput_ok tput_no tput_len okTag okTag_iff put_tag)
open Vi (put put_len put_byte put_int)

def headOf (f : Fel) : List Nat := if fit f = true then (tput f.num f.wire).1 ++ put (if f.wire = 2 then f.b.length else f.n) else []
theorem headOf_ok {f : Fel} (h : fit f = true) : headOf f = (tput f.num f.wire).1 ++ put (if f.wire = 2 then f.b.length else f.n) := if_pos h
theorem headOf_no {f : Fel} (h : fit f = false) : headOf f = [] := if_neg (by rw [h]; decide)
theorem one_head {f : Fel} (h : fit f = true) : Tl.one f = headOf f ++ f.b := by
  obtain ⟨h1, h2, h3⟩ := Tl.fit_iff.1 h
  rw [headOf_ok h]
  unfold Tl.one
  rcases (okTag_iff.1 h1).2.2 with h0 | h0
  · rw [h0, if_pos rfl, if_neg (by decide), h2 h0]; simp
  · rw [h0, if_neg (by decide), if_pos rfl]; simp
theorem headOf_small (f : Fel) : (headOf f).length ≤ 12 := by
  unfold headOf
  split
  · have h1 := tput_small f.num f.wire
    have h2 := put_len (if f.wire = 2 then f.b.length else f.n)
    rw [List.length_append]; omega
  · simp

set_option maxHeartbeats 4000000 in
set_option maxRecDepth 100000 in
theorem head_any (f : Fel) (s : Option Addr × Nat) (w : World) (hf : Fok f) (hs1 : f.b.length ≤ s.2) (hs2 : s.2 ≤ 9223372036854775807) :
    Calls Try.prog 66 #[aggOf f s] w (NewPair w (headOf f) (if fit f = true then 0 else 1)) := by
  obtain ⟨i0, hi, hz0, hz1, hz2⟩ := info_parts byte_info
  obtain ⟨⟨hn64, hfb⟩, n0, n1, k0, k1, hb17⟩ := hf
  unfold aggOf
  obtain ⟨w0, hw0⟩ : ∃ w0 : World, w0 = w.alloc (.cells #[.int .i64 f.num, .int .i64 f.wire, .int .u64 (f.n : Int), .slice s.1 f.b.length s.2] 55) := ⟨_, rfl⟩
  have hk0 : Blk w0 w.heap.size 55 #[.int .i64 f.num, .int .i64 f.wire, .int .u64 (f.n : Int), .slice s.1 f.b.length s.2] := by rw [hw0]; exact Blk.new _ _ _
  have hb0 : Below w.heap.size w w0 := by rw [hw0]; exact (Below.refl _ _).alloc (Nat.le_refl _) _
  have hs0 : w.heap.size < w0.heap.size := by rw [hw0]; simp
  have HW := Lib.hid hw0
  have HK := Lib.hid hk0
  clear hw0 hk0 hfb
  have hts := tput_small f.num f.wire
  obtain ⟨tb, htb⟩ : ∃ tb, (tput f.num f.wire).1 = tb := ⟨_, rfl⟩
  rw [htb] at hts
  obtain ⟨m, hm⟩ : ∃ m, tb.length = m := ⟨_, rfl⟩
  rw [hm] at hts
  have HT := Lib.hid htb
  have HM := Lib.hid hm
  clear htb hm
  obtain ⟨G, hG⟩ : ∃ G, fit f = G := ⟨_, rfl⟩
  rw [hG]
  have HG := Lib.hid hG
  clear hG
  obtain ⟨er, her⟩ : ∃ er : Int, (if G = true then (0 : Int) else 1) = er := ⟨_, rfl⟩
  rw [her]
  have HE := Lib.hid her
  clear her
  obtain ⟨hd, hhd⟩ : ∃ hd, headOf f = hd := ⟨_, rfl⟩
  rw [hhd]
  have HH := Lib.hid hhd
  clear hhd
  go_enter Try.func66, Try.ntmps66
  go_wp2_with fail
  rw [← HW.out]
  refine (put_tag f.num f.wire w0 n0 n1 k0 k1).mono ?_
  rintro e w1 ⟨v1, rfl, hown1, hb1⟩
  rw [HT.out] at hown1
  rw [HM.out] at hown1
  rw [tput_err]
  obtain ⟨A1, d1, rfl, hd1, hd12⟩ := slice_of_own hown1
  have HO1 := Lib.hid (own_base hown1 (Nat.le_of_lt hs0))
  have hbw1 := hb0.trans (hb1.mono (Nat.le_of_lt hs0))
  have hk1 := HK.out.below hb1 hs0
  have c1 := hk1.cell 1
  have c2 := hk1.cell 2
  have c3 := hk1.cell 3
  simp at c1 c2 c3
  clear hown1 hk1 HK HW hb1 hb0
  have hsz := hbw1.size
  cases ho : okTag f.num f.wire with
  | false =>
    obtain rfl : G = false := by rw [← HG.out]; unfold fit; rw [ho]; rfl
    obtain rfl : hd = [] := by rw [← HH.out]; exact headOf_no HG.out
    obtain rfl : er = 1 := HE.out.symm
    rw [if_neg (by decide)]
    clear ho
    go_wp2
    go_ret2
    exact ⟨_, rfl, World.ownsRow_nil _ _ _ _, hbw1⟩
  | true =>
    have hof := (okTag_iff.1 ho).2.2
    have hfit : fit f = (!(decide (f.wire = 0) && decide (0 < f.b.length)) && !(decide (f.wire = 2) && decide (f.n ≠ 0))) := by unfold fit; rw [ho]; rfl
    have HFI := Lib.hid hfit
    have HOF := Lib.hid hof
    rw [if_pos rfl]
    clear ho hfit hof
    go_upto_region 4 with fail
    go_cut [36] (fun b wx => b = .bool (!G) ∧ wx = w1)
    case first =>
      have hfit := HFI.out
      rcases HOF.out with h0 | h0
      · have q1 : (f.wire == 0) = true := by rw [h0]; rfl
        have q2 : (f.wire == 2) = false := by rw [h0]; rfl
        by_cases hbl : 0 < f.b.length
        · obtain rfl : G = false := by rw [← HG.out, hfit, h0]; simp [hbl]
          clear h0 hfit
          go_wp2
          all_goals
            go_meet
            case rel => exact ⟨rfl, rfl⟩
        · obtain rfl : G = true := by rw [← HG.out, hfit, h0, decide_eq_false hbl]; rfl
          clear h0 hfit
          go_wp2
          all_goals
            go_meet
            case rel => exact ⟨rfl, rfl⟩
      · have q1 : (f.wire == 0) = false := by rw [h0]; rfl
        have q2 : (f.wire == 2) = true := by rw [h0]; rfl
        by_cases hbl : f.n = 0
        · obtain rfl : G = true := by rw [← HG.out, hfit, h0]; simp [hbl]
          have q3 : ((f.n : Int) != 0) = false := by rw [hbl]; rfl
          clear h0 hfit hbl
          go_wp2
          all_goals
            go_meet
            case rel => exact ⟨rfl, rfl⟩
        · obtain rfl : G = false := by rw [← HG.out, hfit, h0]; simp [hbl]
          have q3 : ((f.n : Int) != 0) = true := by rw [bne_iff_ne]; omega
          clear h0 hfit hbl
          go_wp2
          all_goals
            go_meet
            case rel => exact ⟨rfl, rfl⟩
    case rest =>
      obtain ⟨rfl, hwc⟩ := hcut
      have hwc := hwc.symm
      subst hwc
      cases G with
      | false =>
        obtain rfl : hd = [] := by rw [← HH.out]; exact headOf_no HG.out
        obtain rfl : er = 1 := HE.out.symm
        go_wp2
        go_ret2
        exact ⟨_, rfl, World.ownsRow_nil _ _ _ _, hbw1⟩
      | true =>
        obtain rfl : er = 0 := HE.out.symm
        have hhd := headOf_ok HG.out
        rw [HH.out, HT.out] at hhd
        rcases HOF.out with h0 | h0
        · rw [h0, if_neg (by decide)] at hhd
          have q2 : (f.wire == 2) = false := by rw [h0]; rfl
          have HD := Lib.hid hhd
          clear hhd h0
          go_wp2_with fail
          refine (put_int (f.n : Int) w1 (by omega) (by omega)).mono ?_
          rintro e w2 ⟨v2, rfl, hown2, hb2⟩
          rw [Int.toNat_natCast] at hown2
          obtain ⟨A2, d2, rfl, hd2, hd22⟩ := slice_of_own hown2
          have hl2 := put_len f.n
          have hbw2 := hbw1.trans (hb2.mono hsz)
          have hsz2 := hbw2.size
          go_wp2_with (at_builtin; refine wpList_append_rd _ rfl (.tmp 46) (.tmp 48) 25 rfl w.heap.size 5 i0 (.int .u8 0) 1 1 Try.underlying25 hi hz0 hz1 hz2 rfl (by decide) _ m (bvs tb) rfl (own_below HO1.out hb2) w2.heap.size A2 (put f.n).length d2 (bvs (put f.n)) rfl (Rd.of_own hown2) (bvs_one _) (by unfold maxLen; omega) (by omega) (by omega) ?_)
          intro v3 w3 hown3 hg3
          have hb3 : Below w.heap.size w w3 := hbw2.grown hg3 (by omega) (fun k hk => (HO1.out.lt k hk).1)
          go_wp2
          go_ret2
          refine ⟨_, rfl, ?_, hb3⟩
          rw [HD.out, bvs_app, List.length_append, HM.out]
          exact hown3
        · rw [h0, if_pos rfl] at hhd
          have q2 : (f.wire == 2) = true := by rw [h0]; rfl
          obtain ⟨L, hL⟩ : ∃ L, f.b.length = L := ⟨_, rfl⟩
          rw [hL] at hhd hb17 c3
          have HD := Lib.hid hhd
          have t14 : IntKind.u64.wrap (L : Int) = (L : Int) := by rw [IntKind.wrap_u64]; omega
          clear hhd h0 hL
          go_wp2_with fail
          refine (put_int (L : Int) w1 (by omega) (by omega)).mono ?_
          rintro e w2 ⟨v2, rfl, hown2, hb2⟩
          rw [Int.toNat_natCast] at hown2
          obtain ⟨A2, d2, rfl, hd2, hd22⟩ := slice_of_own hown2
          have hl2 := put_len L
          have hbw2 := hbw1.trans (hb2.mono hsz)
          have hsz2 := hbw2.size
          go_wp2_with (at_builtin; refine wpList_append_rd _ rfl (.tmp 46) (.tmp 48) 25 rfl w.heap.size 5 i0 (.int .u8 0) 1 1 Try.underlying25 hi hz0 hz1 hz2 rfl (by decide) _ m (bvs tb) rfl (own_below HO1.out hb2) w2.heap.size A2 (put L).length d2 (bvs (put L)) rfl (Rd.of_own hown2) (bvs_one _) (by unfold maxLen; omega) (by omega) (by omega) ?_)
          intro v3 w3 hown3 hg3
          have hb3 : Below w.heap.size w w3 := hbw2.grown hg3 (by omega) (fun k hk => (HO1.out.lt k hk).1)
          go_wp2
          go_ret2
          refine ⟨_, rfl, ?_, hb3⟩
          rw [HD.out, bvs_app, List.length_append, HM.out]
          exact hown3
end Go.Proofs.Ytkagonijkalicaa

/-
  The walk of the landed tlv.May: whether a row of fields may be.
-/
namespace Go.Proofs.Ytkagonijkalicaa
open Go.RowKit
open Tl (Fel mayGo may flat fit falls)
open Tg (tput okTag okTag_iff)

theorem falls_zero {q : Fel} (h : fit q = true) : falls noneAhead q = false := by
  have h1 := (okTag_iff.1 (Tl.fit_iff.1 h).1).1
  unfold falls noneAhead
  rw [decide_eq_false (show ¬ q.num < 0 by omega), decide_eq_false (show ¬ q.num = 0 by omega)]
  rfl

set_option maxHeartbeats 4000000 in
set_option maxRecDepth 100000 in
theorem may_row (A : Option Addr) (n c : Nat) (l : List Fel) (S : List (Option Addr × Nat)) (w : World) (h : RdF w w.heap.size A n l S) (hnc : n ≤ c) (hmax : c ≤ 9223372036854775807) (hn : n ≤ 20000) (hw : ∀ f ∈ l, Fok f) :
    Calls Try.prog 65 #[.slice A n c] w fun e w' => e = .returned (.int .i64 (may l : Nat)) ∧ Below w.heap.size w w' := by
  have HR := Lib.hid h
  have HN := Lib.hid h.1
  have HW := Lib.hid hw
  clear h hw
  obtain ⟨g0, hg0⟩ : ∃ g0, g0 = w.heap.size := ⟨_, rfl⟩
  go_enter Try.func65, Try.ntmps65
  go_wp2_with fail
  refine (rising_any w).mono ?_
  rintro e w0 ⟨rfl, hw0⟩
  have hk0 : Blk w0 g0 55 (fblk noneAhead (none, 0)) := by rw [hw0, hg0]; exact Blk.new _ _ _
  have hb0 : Below w.heap.size w w0 := by rw [hw0]; exact (Below.refl _ _).alloc (Nat.le_refl _) _
  rw [← hg0]
  have HG0 := Lib.hid hg0
  have HK0 := Lib.hid hk0
  clear hw0 hk0 hg0
  unfold riseOf
  go_wp2
  go_loopw [4, 12] (fun x i wr => ∃ (j m : Nat) (p : Fel) (sp : Option Addr × Nat), j ≤ n ∧ i = .int .i64 (j : Int) ∧ x = .int .i64 (m : Int) ∧ (flat (l.take j)).length = m ∧ m ≤ 17012 * j ∧ mayGo none l = mayGo (ahead l j) (l.drop j) ∧
      (∀ q : Fel, fit q = true → falls p q = (ahead l j).any (falls · q)) ∧ Blk wr g0 55 (fblk p sp) ∧ Below w.heap.size w wr) (fun _ i _ => n - (intOf i).toNat)
  case atStart => exact ⟨0, 0, noneAhead, (none, 0), Nat.zero_le _, rfl, rfl, by simp [flat], by omega, rfl, fun q hq => falls_zero hq, HK0.out, hb0⟩
  case round =>
    obtain ⟨j, m, p, sp, hj, rfl, rfl, hml, hm17, hm, hfa, hk, hb⟩ := hrel
    have HM := Lib.hid hm
    have HML := Lib.hid hml
    have HFA := Lib.hid hfa
    have HK := Lib.hid hk
    have hltg := hk.lt
    clear hm hml hfa hk
    have hsz := hb.size
    by_cases hlt : j < n
    · obtain ⟨ad, f, s, rfl, hab, hf, hs, r0, r1, r2, r3, hrd, hs1, hs2⟩ := (HR.out.below hb).spell hlt
      have hok := HW.out f (List.mem_of_getElem? hf)
      have hb17 := hok.2.2.2.2.2
      have hst := mayGo_step hf (ahead l j)
      have HST := Lib.hid hst
      have HF := Lib.hid hf
      have HOK := Lib.hid hok
      clear hst hf hs hok
      obtain ⟨w3, hw3⟩ : ∃ w3 : World, w3 = wr.alloc (.cells #[.int .i64 f.num, .int .i64 f.wire, .int .u64 (f.n : Int), .slice s.1 f.b.length s.2] 55) := ⟨_, rfl⟩
      have hk3 : Blk w3 wr.heap.size 55 (fblk f s) := by rw [hw3]; exact Blk.new _ _ _
      have hb3 : Below wr.heap.size wr w3 := by rw [hw3]; exact (Below.refl _ _).alloc (Nat.le_refl _) _
      have hs3 : wr.heap.size < w3.heap.size := hk3.lt
      have HK3 := Lib.hid hk3
      have HW3 := Lib.hid hw3
      clear hw3 hk3
      have hcall := head_any f s w3 HOK.out hs1 hs2
      obtain ⟨G, hG⟩ : ∃ G, fit f = G := ⟨_, rfl⟩
      rw [hG] at hcall
      obtain ⟨hl, hhl⟩ : ∃ hl, (headOf f).length = hl := ⟨_, rfl⟩
      have hl12 := headOf_small f
      rw [hhl] at hl12
      have HHL := Lib.hid hhl
      have HG := Lib.hid hG
      have HC := Lib.hid hcall
      clear hG hhl hcall
      go_wp2_with fail
      rw [← HW3.out]
      refine HC.out.mono ?_
      rintro e w5 ⟨v5, rfl, hown5, hb5⟩
      rw [HHL.out] at hown5
      obtain ⟨A5, c5, rfl, _, _⟩ := slice_of_own hown5
      have hk5 := HK3.out.below hb5 hs3
      have hlt5 := hk5.lt
      have z0 := hk5.cell 0
      have z1 := hk5.cell 1
      have z2 := hk5.cell 2
      have z3 := hk5.cell 3
      simp [fblk] at z0 z1 z2 z3
      have hb35 := hb3.trans (hb5.mono hb3.size)
      have hbw5 := hb.trans (hb35.mono hsz)
      have HK5 := Lib.hid (HK.out.below hb35 hltg)
      clear hown5 hb5 HK3 HW3 hk5 hb3 HC HK
      cases G with
      | false =>
        rw [if_neg (by decide)]
        go_wp2
        go_ret
        refine ⟨?_, hbw5⟩
        have e : mayGo none l = 1 := by rw [HM.out, HST.out, if_pos HG.out]
        unfold may
        rw [e]; rfl
      | true =>
        rw [if_pos rfl]
        obtain ⟨D, hD⟩ : ∃ D, falls p f = D := ⟨_, rfl⟩
        have hcall := rise_any g0 p f sp s w5 HK5.out
        rw [hD] at hcall
        have HC := Lib.hid hcall
        have HD := Lib.hid (show (ahead l j).any (falls · f) = D by rw [← HFA.out f HG.out]; exact hD)
        clear hcall hD
        go_wp2_with fail
        refine HC.out.mono ?_
        rintro e w6 ⟨rfl, hg6, hk6⟩
        have HK6 := Lib.hid hk6
        have hbw6 : Below w.heap.size w w6 := hbw5.grown hg6 hbw5.size (fun k hk => by injection hk with hk; have := HG0.out; omega)
        have z3' := (hg6.cell_far ⟨wr.heap.size, 3, none⟩ hlt5 (by simp; omega)).trans z3
        clear z0 z1 z2 z3 hg6 hk6 HC
        cases D with
        | true =>
          go_wp2
          go_ret
          refine ⟨?_, hbw6⟩
          have e : mayGo none l = 5 := by rw [HM.out, HST.out, if_neg (by rw [HG.out]; decide), if_pos HD.out]
          unfold may
          rw [e]; rfl
        | false =>
          by_cases hbig : 16384 < f.b.length
          · go_wp2
            go_ret
            refine ⟨?_, hbw6⟩
            have e : mayGo none l = 4 := by rw [HM.out, HST.out, if_neg (by rw [HG.out]; decide), if_neg (by rw [HD.out]; decide), if_pos hbig]
            unfold may
            rw [e]; rfl
          · go_wp2
            go_roundw
            case rel =>
              refine ⟨j + 1, m + (hl + f.b.length), f, s, by omega, by go_num, by go_num, ?_, by omega, ?_, ?_, HK6.out, hbw6⟩
              · rw [flat_snoc HF.out, List.length_append, HML.out, one_head HG.out, List.length_append, HHL.out]
              · rw [HM.out, HST.out, if_neg (by rw [HG.out]; decide), if_neg (by rw [HD.out]; decide), if_neg hbig]
                have e : ahead l (j + 1) = some f := HF.out
                rw [e]
              · intro q _
                have e : ahead l (j + 1) = some f := HF.out
                rw [e]; rfl
            case measure => simp [intOf]; omega
    · obtain rfl : j = n := by omega
      have hm0 : mayGo none l = 0 := by
        rw [HM.out, List.drop_eq_nil_of_le (by have := HN.out; omega)]
        unfold mayGo
        rfl
      have hfl : (flat l).length = m := by
        have := HML.out
        rwa [List.take_of_length_le (by have := HN.out; omega)] at this
      have HFL := Lib.hid hfl
      have HM0 := Lib.hid hm0
      clear hm0 hfl
      by_cases hbig : 16384 < m
      · go_wp2
        go_ret
        refine ⟨?_, hb⟩
        unfold may
        rw [HM0.out, HFL.out]
        simp only [ne_eq, not_true, if_false]
        rw [if_pos hbig]
        rfl
      · go_wp2
        go_ret
        refine ⟨?_, hb⟩
        unfold may
        rw [HM0.out, HFL.out]
        simp only [ne_eq, not_true, if_false]
        rw [if_neg hbig]
        rfl
end Go.Proofs.Ytkagonijkalicaa

/-
  The walk of the landed tlv.Take: a row of fields, taken.
-/
namespace Go.Proofs.Ytkagonijkalicaa
open Go.RowKit
open Tl (Fel falls fit takeGo takeRow fieldOf)
open Tg (ttake tskip skip_tag)

/-- Where the bytes of a row's fields lie: none of them in block g0, none in the row's own. -/
def LieO (w : World) (g0 : Nat) (row : Option Nat) (F : List Fel) (T : List (Option Addr × Nat)) : Prop :=
  ∀ (k : Nat) (f : Fel) (s : Option Addr × Nat), F[k]? = some f → T[k]? = some s → Rd w w.heap.size 1 s.1 f.b.length (bvs f.b) ∧ f.b.length ≤ s.2 ∧ s.2 ≤ 9223372036854775807 ∧ (f.b.length = 0 ∨ ∀ ad : Addr, s.1 = some ad → ad.block ≠ g0 ∧ some ad.block ≠ row)
theorem LieO.nil (w : World) (g0 : Nat) (row : Option Nat) : LieO w g0 row [] [] := fun k f s h => by simp at h
theorem LieO.below {w w' : World} {g0 : Nat} {row : Option Nat} {F : List Fel} {T : List (Option Addr × Nat)} (h : LieO w g0 row F T) (hb : Below w.heap.size w w') : LieO w' g0 row F T := fun k f s hf hs => by
  obtain ⟨h1, h2, h3, h4⟩ := h k f s hf hs
  exact ⟨(h1.below hb).more hb.size, h2, h3, h4⟩
theorem LieO.grown {w w' : World} {g0 : Nat} {row r : Option Nat} {F : List Fel} {T : List (Option Addr × Nat)} (h : LieO w g0 row F T) (hg : w.grownBy w' r) (hr : r = some g0 ∨ r = row) : LieO w' g0 row F T := fun k f s hf hs => by
  obtain ⟨h1, h2, h3, h4⟩ := h k f s hf hs
  refine ⟨(h1.grown (Nat.le_refl _) hg (h4.imp id fun h4 ad had => ?_)).more hg.size, h2, h3, h4⟩
  have := h4 ad had
  rcases hr with rfl | rfl
  · simpa using this.1
  · exact this.2
theorem LieO.rerow {w : World} {g0 g H : Nat} {row : Option Nat} {F : List Fel} {T : List (Option Addr × Nat)} {w' : World} {o : Obj} (h : LieO w g0 row F T) (hg : (w.alloc o).grownBy w' row) (hat : row = some g ∨ g = H) (hH : H = w.heap.size + 1) : LieO w' g0 (some g) F T := fun k f s hf hs => by
  obtain ⟨h1, h2, h3, h4⟩ := h k f s hf hs
  have h5 := (h1.alloc (Nat.le_refl _) o).grown (by simp) hg (h4.imp id fun h4 ad had => (h4 ad had).2)
  have hsz : w.heap.size ≤ w'.heap.size := by have := hg.size; simp at this; omega
  refine ⟨h5.more hsz, h2, h3, ?_⟩
  by_cases h0 : f.b.length = 0
  · exact .inl h0
  · right
    intro ad had
    have h6 := (h4.resolve_left h0) ad had
    refine ⟨h6.1, ?_⟩
    rcases hat with hat | hat
    · rw [← hat]; exact h6.2
    · rcases h1.2 with hz | ⟨ad', hA, hlt, _⟩
      · exact absurd hz h0
      · rw [had] at hA
        cases hA
        simp; omega
theorem LieO.snoc {w : World} {g0 : Nat} {row : Option Nat} {F : List Fel} {T : List (Option Addr × Nat)} (h : LieO w g0 row F T) (hl : T.length = F.length) {f : Fel} {s : Option Addr × Nat} (h1 : Rd w w.heap.size 1 s.1 f.b.length (bvs f.b)) (h2 : f.b.length ≤ s.2) (h3 : s.2 ≤ 9223372036854775807)
    (h4 : f.b.length = 0 ∨ ∀ ad : Addr, s.1 = some ad → ad.block ≠ g0 ∧ some ad.block ≠ row) : LieO w g0 row (F ++ [f]) (T ++ [s]) := fun k f' s' hf hs => by
  by_cases hk : k < F.length
  · rw [List.getElem?_append_left hk] at hf
    rw [List.getElem?_append_left (by omega)] at hs
    exact h k f' s' hf hs
  · have hk2 := (List.getElem?_eq_some_iff.1 hf).1
    rw [List.length_append, List.length_singleton] at hk2
    obtain rfl : k = F.length := by omega
    rw [List.getElem?_append_right (Nat.le_refl _), Nat.sub_self] at hf
    rw [List.getElem?_append_right (by omega), hl, Nat.sub_self] at hs
    simp at hf hs
    subst hf hs
    exact ⟨h1, h2, h3, h4⟩

def lenOf' : Value → Nat
  | .slice _ n _ => n
  | _ => 0

set_option maxHeartbeats 4000000 in
set_option maxRecDepth 100000 in
theorem take_row (A : Option Addr) (n c : Nat) (bs : List Nat) (w : World) (hb : ∀ c ∈ bs, c < 256) (h : Rd w w.heap.size 1 A n (bvs bs)) (hnc : n ≤ c) (hmax : c ≤ 9223372036854775807) :
    Calls Try.prog 54 #[.slice A n c] w fun e w' => ∃ v, e = .returned (.tuple #[v, .int .i64 ((takeRow bs).2 : Nat)]) ∧ NewRow w' (takeRow bs).1 v ∧ Below w.heap.size w w' := by
  obtain ⟨i0, hi, hz0, hz1, hz2⟩ := info_parts field_info
  obtain ⟨j0, ji, jz0, jz1, jz2⟩ := info_parts byte_info
  have hlen : bs.length = n := by have := h.1; rw [bvs_len] at this; omega
  have HL := Lib.hid hlen
  have HR := Lib.hid h
  have HB := Lib.hid hb
  clear hlen h hb
  by_cases hbig : 16384 < n
  · have hv : takeRow bs = ([], 4) := by unfold takeRow; rw [if_pos (by rw [HL.out]; exact hbig)]
    have HV := Lib.hid hv
    clear hv
    go_enter Try.func54, Try.ntmps54
    go_wp2
    go_ret2
    refine ⟨.slice none 0 0, by rw [HV.out]; rfl, ?_, Below.refl _ _⟩
    rw [HV.out]
    exact ⟨none, 0, 0, [], rfl, Nat.le_refl _, by omega, RdF.nil _ _ _⟩
  · have hv : takeRow bs = takeGo n none bs := by unfold takeRow; rw [if_neg (by rw [HL.out]; exact hbig), HL.out]
    have HV := Lib.hid hv
    clear hv
    obtain ⟨g0, hg0⟩ : ∃ g0, g0 = w.heap.size := ⟨_, rfl⟩
    go_enter Try.func54, Try.ntmps54
    go_wp2_with fail
    refine (rising_any w).mono ?_
    rintro e w0 ⟨rfl, hw0⟩
    have hk0 : Blk w0 g0 55 (fblk noneAhead (none, 0)) := by rw [hw0, hg0]; exact Blk.new _ _ _
    have hb0 : Below w.heap.size w w0 := by rw [hw0]; exact (Below.refl _ _).alloc (Nat.le_refl _) _
    rw [← hg0]
    have HG0 := Lib.hid hg0
    have HK0 := Lib.hid hk0
    clear hw0 hk0 hg0
    unfold riseOf
    go_wp2
    go_loopw [0, 5] (fun b o wr => ∃ (k m n' c' : Nat) (A' : Option Addr) (bs' : List Nat) (F : List Fel) (T : List (Option Addr × Nat)) (p : Fel) (sp : Option Addr × Nat), b = .slice A' n' c' ∧ n' ≤ c' ∧ c' ≤ 9223372036854775807 ∧ Rd w w.heap.size 1 A' n' (bvs bs') ∧ n' ≤ k ∧ (∀ c ∈ bs', c < 256) ∧ n' + m ≤ n ∧
        o.ownBlock ≠ some g0 ∧ wr.ownsRow w.heap.size 55 4 o m (rcells F T) ∧ F.length = m ∧ T.length = m ∧ LieO wr g0 o.ownBlock F T ∧ acc F (takeGo k F.getLast? bs') = takeRow bs ∧
        (∀ q : Fel, fit q = true → falls p q = F.getLast?.any (falls · q)) ∧ Blk wr g0 55 (fblk p sp) ∧ Below w.heap.size w wr) (fun b _ _ => lenOf' b)
    case atStart =>
      refine ⟨n, 0, n, c, A, bs, [], [], noneAhead, (none, 0), rfl, hnc, hmax, HR.out, Nat.le_refl _, HB.out, by omega, by simp [Value.ownBlock], World.ownsRow_nil _ _ _ _, rfl, rfl, LieO.nil _ _ _, ?_, fun q hq => falls_zero hq, HK0.out, hb0⟩
      rw [HV.out]; exact acc_nil _ (Tl.takeGo_no n none bs)
    case round =>
      obtain ⟨k, m, n', c', A', bs', F, T, p, sp, rfl, hnc', hmax', hr', hnk, hb', hnm, hog, hown, hF, hT, hlie, hacc, hfa, hk, hb⟩ := hrel
      have hlen' : bs'.length = n' := by have := hr'.1; rw [bvs_len] at this; omega
      have hltg := hk.lt
      have HR' := Lib.hid hr'
      have HB' := Lib.hid hb'
      have HO := Lib.hid hown
      have HOG := Lib.hid hog
      have HF := Lib.hid hF
      have HT := Lib.hid hT
      have HLI := Lib.hid hlie
      have HAC := Lib.hid hacc
      have HL' := Lib.hid hlen'
      have HFA := Lib.hid hfa
      have HK := Lib.hid hk
      have hsz := hb.size
      clear hr' hb' hown hF hT hlie hacc hlen' hfa hk hog
      by_cases hpos : 0 < n'
      · have hne : bs' ≠ [] := fun h => by have := HL'.out; rw [h] at this; simp at this; omega
        obtain ⟨k, rfl⟩ : ∃ k', k = k' + 1 := ⟨k - 1, by omega⟩
        obtain ⟨s, e, hse⟩ : ∃ s e, tskip bs' = (s, e) := ⟨_, _, rfl⟩
        have hskip := skip_tag A' n' c' bs' wr HB'.out ((HR'.out.below hb).more hsz) hnc' hmax'
        rw [hse] at hskip
        have HSK := Lib.hid hskip
        have HSE := Lib.hid hse
        clear hskip hse
        by_cases he : e = 0
        · subst he
          obtain ⟨h1, h2, h3, h4, h5, h6⟩ := Tl.fieldOf_back HB'.out HSE.out
          obtain ⟨q1, q2⟩ := cut_field HB'.out HSE.out
          rw [HL'.out] at h2
          have hcut1 := HR'.out.bytes_to h2
          have hcut2 := HR'.out.bytes_from h2 hnc'
          have hsl2 := run_from (P := Try.prog) 25 5 j0 1 Try.underlying25 ji jz1 A' n' c' s .i64 h2
          obtain ⟨A4, hA4⟩ : ∃ A4, cutAt A' c' 1 s = A4 := ⟨_, rfl⟩
          rw [hA4] at hcut2
          simp only [hA4] at hsl2
          obtain ⟨f, hf⟩ : ∃ f, fieldOf bs' = f := ⟨_, rfl⟩
          rw [hf] at q2 h4
          obtain ⟨bt, hbt⟩ : ∃ bt, bs'.take s = bt := ⟨_, rfl⟩
          rw [hbt] at q1 q2 hcut1
          have HFF := Lib.hid hf
          have HQ1 := Lib.hid q1
          have HQ2 := Lib.hid q2
          have HFIT := Lib.hid h4
          have HC1 := Lib.hid hcut1
          have HC2 := Lib.hid hcut2
          have HBT := Lib.hid (show ∀ c ∈ bt, c < 256 from fun c hc => HB'.out c (List.mem_of_mem_take (by rw [hbt]; exact hc)))
          clear h3 h4 h5 h6 q1 q2 hcut1 hcut2 hA4 hf hbt
          go_wp2_with fail
          refine HSK.out.mono ?_
          rintro e' w1 ⟨rfl, hb1⟩
          have hbw1 := hb.trans (hb1.mono hsz)
          go_wp2_with fail
          refine (field_any A' s c' bt w1 HBT.out ((HC1.out.below hbw1).more hbw1.size) (by omega) hmax' (by omega) HQ1.out).mono ?_
          rintro e' w2 ⟨s8, rfl, hr8, hs8, hm8, ha8, hb2⟩
          rw [HQ2.out] at hr8 hs8 ha8
          rw [HQ2.out]
          unfold aggOf
          have hbr2 : Below wr.heap.size wr w2 := hb1.trans (hb2.mono hb1.size)
          have hbw2 := hb.trans (hbr2.mono hsz)
          have ha9 : f.b.length = 0 ∨ ∀ ad : Addr, s8.1 = some ad → wr.heap.size ≤ ad.block := ha8.imp id fun h ad had => Nat.le_trans hb1.size (h ad had)
          obtain ⟨gb, hgb⟩ : ∃ gb, gb = w2.heap.size := ⟨_, rfl⟩
          obtain ⟨w3, hw3⟩ : ∃ w3 : World, w3 = w2.alloc (.cells #[.int .i64 f.num, .int .i64 f.wire, .int .u64 (f.n : Int), .slice s8.1 f.b.length s8.2] 55) := ⟨_, rfl⟩
          have hk3 : Blk w3 gb 55 (fblk f s8) := by rw [hw3, hgb]; exact Blk.new _ _ _
          have hbr3 : Below wr.heap.size wr w3 := by rw [hw3]; exact hbr2.alloc hbr2.size _
          have hgb2 : wr.heap.size ≤ gb := by rw [hgb]; exact hbr2.size
          have hlt3 := hk3.lt
          have hr3 : Rd w3 w3.heap.size 1 s8.1 f.b.length (bvs f.b) := by rw [hw3]; exact (hr8.alloc (Nat.le_refl _) _).more (by simp)
          have HR8 := Lib.hid hr3
          have HA8 := Lib.hid ha9
          have HK3 := Lib.hid hk3
          have HW3 := Lib.hid hw3
          have HGB := Lib.hid hgb
          obtain ⟨D, hD⟩ : ∃ D, falls p f = D := ⟨_, rfl⟩
          have hcall := rise_any g0 p f sp s8 w3 (HK.out.below hbr3 hltg)
          rw [hD] at hcall
          have HC := Lib.hid hcall
          have HD := Lib.hid (show F.getLast?.any (falls · f) = D by rw [← HFA.out f HFIT.out]; exact hD)
          clear hcall hD hw3 hgb hk3 hr3 hr8 ha8 ha9 hb1 hb2 hbw1 HC1 HQ1 HQ2 HSK
          go_wp2_with fail
          rw [← HW3.out, ← HGB.out]
          refine HC.out.mono ?_
          rintro e w4 ⟨rfl, hg4, hk4⟩
          have hbw3 := hb.trans (hbr3.mono hsz)
          have hbw4 : Below w.heap.size w w4 := hbw3.grown hg4 hbw3.size (fun k hk => by injection hk with hk; have := HG0.out; omega)
          have hL4 := ((HLI.out.below hbr3).grown hg4 (.inl rfl)).snoc (by rw [HT.out, HF.out]) (f := f) (s := s8) (((HR8.out.grown (Nat.le_refl _) hg4 (HA8.out.imp id fun h ad had => by have := h ad had; simp; omega))).more hg4.size) hs8 hm8
            (HA8.out.imp id fun h ad had => ⟨by have := h ad had; omega, fun e => by have := h ad had; have := (HO.out.lt _ e.symm).2; omega⟩)
          have hO4 := (own_below HO.out hbr3).kept hg4 (by right; exact HOG.out)
          have z0 := (hg4.cell_far ⟨gb, 0, none⟩ hlt3 (by simp; omega)).trans (HK3.out.cell 0)
          have z1 := (hg4.cell_far ⟨gb, 1, none⟩ hlt3 (by simp; omega)).trans (HK3.out.cell 1)
          have z2 := (hg4.cell_far ⟨gb, 2, none⟩ hlt3 (by simp; omega)).trans (HK3.out.cell 2)
          have z3 := (hg4.cell_far ⟨gb, 3, none⟩ hlt3 (by simp; omega)).trans (HK3.out.cell 3)
          simp [fblk] at z0 z1 z2 z3
          have hg04 := hk4.lt
          have HL4 := Lib.hid hL4
          have HO4 := Lib.hid hO4
          have HK4 := Lib.hid hk4
          have hszw4 := hbw4.size
          clear hL4 hO4 hk4 hg4 HC HR8 HA8 HLI HO HK3 HW3 HGB
          cases D with
          | true =>
            have hfin : takeRow bs = ([], 5) := by rw [← HAC.out, takeGo_falls HSE.out hne (by rw [HFF.out]; exact HD.out), acc_bad (by decide)]
            have HFI := Lib.hid hfin
            clear hfin hne
            go_wp2
            go_ret2
            refine ⟨.slice none 0 0, by rw [HFI.out]; rfl, ?_, hbw4⟩
            rw [HFI.out]
            exact ⟨none, 0, 0, [], rfl, Nat.le_refl _, by omega, RdF.nil _ _ _⟩
          | false =>
            have hgo : acc (F ++ [f]) (takeGo k (F ++ [f]).getLast? (bs'.drop s)) = takeRow bs := by
              rw [← HAC.out, takeGo_go HSE.out hne (by rw [HFF.out]; exact HD.out), acc_acc, HFF.out, List.getLast?_append]
              rfl
            have HGO := Lib.hid hgo
            have hmlt : m ≤ 16384 := by omega
            clear hgo hne
            go_wp2_with (at_builtin; refine wpList_append_lies _ rfl (.tmp 32) (.tmp 34) 40 rfl w.heap.size 55 i0 (.agg #[.int .i64 0, .int .i64 0, .int .u64 0, .slice none 0 0]) 4 48 Try.underlying40 hi hz0 hz1 hz2 rfl (by decide) _ m _ rfl (HO4.out.alloc _) ⟨w4.heap.size, 0, none⟩ 1 1 [.int .i64 f.num, .int .i64 f.wire, .int .u64 (f.n : Int), .slice s8.1 f.b.length s8.2] rfl rfl (cells4_new _ _ _ _ _ _) (few_one _ _ _ _ _ _) (by decide) (by unfold maxLen; omega) (by omega) (by simp; omega) (w4.heap.size + 1) (by simp) ?_)
            intro g2 cap w10 hown10 hgrow10 hat10 hltg10
            have hb10 : Below w.heap.size w w10 := (hbw4.alloc hszw4 _).grown hgrow10 (by simp; omega) (fun k hk => (HO4.out.lt k hk).1)
            have HL10 := Lib.hid (HL4.out.rerow hgrow10 hat10 rfl)
            have HO10 := Lib.hid hown10
            have hk10 : Blk w10 g0 55 (fblk f s8) := (hgrow10.block g0 (by simp; omega) (fun e => HOG.out e.symm)).trans (HK4.out.alloc _)
            have HK10 := Lib.hid hk10
            have hgg : g2 ≠ g0 := by
              rcases hat10 with h | h
              · intro e; exact HOG.out (by rw [h, e])
              · omega
            clear hown10 hgrow10 hat10 hk10
            go_wp2
            go_roundw
            case rel =>
              refine ⟨k, m + 1, n' - s, c' - s, A4, bs'.drop s, F ++ [f], T ++ [s8], f, s8, rfl, by omega, by omega, HC2.out, by omega, fun c hc => HB'.out c (List.mem_of_mem_drop hc), by omega, by simp [Value.ownBlock]; exact hgg, ?_, by simp [HF.out], by simp [HT.out], by simpa [Value.ownBlock] using HL10.out, HGO.out, ?_, HK10.out, hb10⟩
              · rw [rcells_app _ _ _ _ (by rw [HT.out, HF.out]), rcells_one]
                exact HO10.out
              · intro q _
                rw [List.getLast?_append]; rfl
            case measure => simp [lenOf']; omega
        · have hbad : takeRow bs = ([], e) := by rw [← HAC.out, Tl.takeGo_bad HSE.out he hne, acc_bad he]
          have HBAD := Lib.hid hbad
          have q1 : ((e : Int) != 0) = true := by rw [bne_iff_ne]; omega
          clear hbad hne
          go_wp2_with fail
          refine HSK.out.mono ?_
          rintro e' w1 ⟨rfl, hb1⟩
          have hbw1 := hb.trans (hb1.mono hsz)
          go_wp2
          go_ret2
          refine ⟨.slice none 0 0, by rw [HBAD.out]; rfl, ?_, hbw1⟩
          rw [HBAD.out]
          exact ⟨none, 0, 0, [], rfl, Nat.le_refl _, by omega, RdF.nil _ _ _⟩
      · obtain rfl : n' = 0 := by omega
        have hbe : bs' = [] := List.eq_nil_of_length_eq_zero HL'.out
        have hfin : takeRow bs = (F, 0) := by
          rw [← HAC.out, hbe, takeGo_end]
          simp [acc]
        have HFI := Lib.hid hfin
        obtain ⟨A9, c9, rfl, hc9, hm9, hrd9⟩ := RdF.of_own HO.out HF.out HT.out (Nat.le_refl _) (fun k f s hf hs => ⟨(HLI.out k f s hf hs).1, (HLI.out k f s hf hs).2.1, (HLI.out k f s hf hs).2.2.1⟩)
        have HRD9 := Lib.hid hrd9
        clear hbe hfin hrd9
        go_wp2
        go_ret2
        refine ⟨_, by rw [HFI.out]; rfl, ?_, hb⟩
        rw [HFI.out]
        exact ⟨A9, m, c9, T, rfl, hc9, hm9, HRD9.out⟩
end Go.Proofs.Ytkagonijkalicaa

/-
  The walk of the landed tlv.Put: a row of fields, laid down.
-/
namespace Go.Proofs.Ytkagonijkalicaa
open Go.RowKit
open Tl (Fel mayGo may flat fit putRow)

set_option maxHeartbeats 4000000 in
set_option maxRecDepth 100000 in
theorem put_row (A : Option Addr) (n c : Nat) (l : List Fel) (S : List (Option Addr × Nat)) (w : World) (h : RdF w w.heap.size A n l S) (hnc : n ≤ c) (hmax : c ≤ 9223372036854775807) (hn : n ≤ 20000) (hw : ∀ f ∈ l, Fok f) :
    Calls Try.prog 48 #[.slice A n c] w (NewPair w (putRow l).1 ((putRow l).2 : Nat)) := by
  obtain ⟨i0, hi, hz0, hz1, hz2⟩ := info_parts byte_info
  obtain ⟨m, hm⟩ : ∃ m, may l = m := ⟨_, rfl⟩
  have hput : putRow l = if m ≠ 0 then ([], m) else (flat l, 0) := by unfold putRow; rw [hm]
  have hm5 : m ≤ 5 := by have := Tl.may_err l; omega
  have HM := Lib.hid hm
  have HP := Lib.hid hput
  have HR := Lib.hid h
  have HN := Lib.hid h.1
  have HW := Lib.hid hw
  have hcall := may_row A n c l S w h hnc hmax hn hw
  rw [hm] at hcall
  have HC := Lib.hid hcall
  clear h hw hm hput hcall
  by_cases h0 : m = 0
  · have hp := HP.out
    rw [if_neg (by omega)] at hp
    rw [hp]
    have hfit : ∀ f ∈ l, fit f = true := fun f hf => (Tl.mayGo_fit (Tl.may_zero.1 (by rw [HM.out, h0])).1 f hf).1
    have HFT := Lib.hid hfit
    clear hp HP HM hfit
    subst h0
    go_enter Try.func48, Try.ntmps48
    go_wp2_with fail
    refine HC.out.mono ?_
    rintro e w1 ⟨rfl, hb1⟩
    have hsz1 := hb1.size
    go_wp2
    go_loopw [5, 17] (fun v i wr => ∃ (k m : Nat), k ≤ n ∧ i = .int .i64 (k : Int) ∧ m ≤ 17012 * k ∧ (flat (l.take k)).length = m ∧ wr.ownsRow w.heap.size 5 1 v m (bvs (flat (l.take k))) ∧ Below w.heap.size w wr) (fun _ i _ => n - (intOf i).toNat)
    case atStart => exact ⟨0, 0, Nat.zero_le _, rfl, by omega, by simp [flat], World.ownsRow_nil _ _ _ _, hb1⟩
    case round =>
      obtain ⟨k, m, hk, rfl, hmk, hml, hown, hb⟩ := hrel
      have HO := Lib.hid hown
      have HML := Lib.hid hml
      have hsz := hb.size
      clear hown hml
      by_cases hlt : k < n
      · obtain ⟨ad, f, s, rfl, hab, hf, hs, r0, r1, r2, r3, hrd, hs1, hs2⟩ := (HR.out.below hb).spell hlt
        have hok := HW.out f (List.mem_of_getElem? hf)
        have hft := HFT.out f (List.mem_of_getElem? hf)
        have hb17 := hok.2.2.2.2.2
        obtain ⟨w3, hw3⟩ : ∃ w3 : World, w3 = wr.alloc (.cells #[.int .i64 f.num, .int .i64 f.wire, .int .u64 (f.n : Int), .slice s.1 f.b.length s.2] 55) := ⟨_, rfl⟩
        have hk3 : Blk w3 wr.heap.size 55 (fblk f s) := by rw [hw3]; exact Blk.new _ _ _
        have hb3 : Below wr.heap.size wr w3 := by rw [hw3]; exact (Below.refl _ _).alloc (Nat.le_refl _) _
        have hs3 : wr.heap.size < w3.heap.size := hk3.lt
        have HK3 := Lib.hid hk3
        have HW3 := Lib.hid hw3
        have e1 : flat (l.take (k + 1)) = flat (l.take k) ++ headOf f ++ f.b := by rw [flat_snoc hf, one_head hft, List.append_assoc]
        have hcall := head_any f s w3 hok hs1 hs2
        rw [if_pos hft] at hcall
        obtain ⟨hl, hhl⟩ : ∃ hl, (headOf f).length = hl := ⟨_, rfl⟩
        have hl12 := headOf_small f
        rw [hhl] at hl12
        have HHL := Lib.hid hhl
        have HC3 := Lib.hid hcall
        have HE := Lib.hid e1
        have HRD := Lib.hid hrd
        clear hhl hcall hw3 hk3 e1 hok hft hf hs hrd
        go_wp2_with fail
        rw [← HW3.out]
        refine HC3.out.mono ?_
        rintro e w5 ⟨v5, rfl, hown5, hb5⟩
        rw [HHL.out] at hown5
        obtain ⟨A5, c5, rfl, _, _⟩ := slice_of_own hown5
        have hk5 := HK3.out.below hb5 hs3
        have hlt5 := hk5.lt
        have hb35 := hb3.trans (hb5.mono hb3.size)
        have hbw5 := hb.trans (hb35.mono hsz)
        have HK5 := Lib.hid hk5
        have HO5 := Lib.hid (own_below HO.out hb35)
        have hsz5 := hbw5.size
        have hr5 := Rd.of_own hown5
        have HR5 := Lib.hid hr5
        clear hown5 hb5 HK3 HW3 hk5 hr5
        go_wp2_with (at_builtin; refine wpList_append_rd _ rfl (.tmp 26) (.tmp 27) 25 rfl w.heap.size 5 i0 (.int .u8 0) 1 1 Try.underlying25 hi hz0 hz1 hz2 rfl (by decide) _ m (bvs (flat (l.take k))) rfl HO5.out w5.heap.size A5 hl c5 (bvs (headOf f)) rfl HR5.out (bvs_one _) (by unfold maxLen; omega) (by omega) (by omega) ?_)
        intro v6 w6 hown6 hg6
        have hb6 : Below w.heap.size w w6 := hbw5.grown hg6 (by omega) (fun k hk => (HO5.out.lt k hk).1)
        have z3 := (hg6.cell_far ⟨wr.heap.size, 3, none⟩ hlt5 (fun e => by have := (HO.out.lt _ e.symm).2; simp at this)).trans (HK5.out.cell 3)
        simp [fblk] at z3
        have hr6 := (HRD.out.below (Below.grown (B := w.heap.size) (hb35.mono hsz) hg6 (by omega) (fun k hk => (HO5.out.lt k hk).1))).more hb6.size
        have HO6 := Lib.hid hown6
        have HR6 := Lib.hid hr6
        have hsz6 := hb6.size
        clear hown6 hg6 hr6 HK5 HO5
        go_wp2_with (at_builtin; refine wpList_append_rd _ rfl (.tmp 29) (.tmp 31) 25 rfl w.heap.size 5 i0 (.int .u8 0) 1 1 Try.underlying25 hi hz0 hz1 hz2 rfl (by decide) _ (m + hl) _ rfl HO6.out w6.heap.size s.1 f.b.length s.2 (bvs f.b) rfl HR6.out (bvs_one _) (by unfold maxLen; omega) (by omega) (by omega) ?_)
        intro v7 w7 hown7 hg7
        have hb7 : Below w.heap.size w w7 := hb6.grown hg7 (by omega) (fun k hk => (HO6.out.lt k hk).1)
        clear hg7
        go_wp2
        go_roundw
        case rel =>
          refine ⟨k + 1, m + hl + f.b.length, by omega, by go_num, by omega, ?_, ?_, hb7⟩
          · rw [HE.out, List.length_append, List.length_append, HML.out, HHL.out]
          · rw [HE.out, bvs_app, bvs_app, List.append_assoc]; exact hown7
        case measure => simp [intOf]; omega
      · obtain rfl : k = n := by omega
        have hl : l.take k = l := List.take_of_length_le (by have := HN.out; omega)
        have hown := HO.out
        have hml := HML.out
        rw [hl] at hown hml
        have HO2 := Lib.hid hown
        have HM2 := Lib.hid hml
        clear hl hown hml
        go_wp2
        go_ret2
        refine ⟨_, rfl, ?_, hb⟩
        simp only []
        rw [HM2.out]
        exact HO2.out
  · have hp := HP.out
    rw [if_pos h0] at hp
    rw [hp]
    have q : ((m : Int) != 0) = true := by rw [bne_iff_ne]; omega
    clear hp HP HM
    go_enter Try.func48, Try.ntmps48
    go_wp2_with fail
    refine HC.out.mono ?_
    rintro e w1 ⟨rfl, hb1⟩
    go_wp2
    go_ret2
    exact ⟨_, rfl, World.ownsRow_nil _ _ _ _, hb1⟩
end Go.Proofs.Ytkagonijkalicaa

/-
  The walk of the landed tlv.Split: a row of fields, parted.
-/
namespace Go.Proofs.Ytkagonijkalicaa
open Go.RowKit
open Tl (Fel)

theorem ne_symm {a b : Option Nat} (h : a = none ∨ a ≠ b) : b = none ∨ b ≠ a := by
  rcases h with rfl | h
  · cases b with
    | none => exact .inl rfl
    | some k => right; simp
  · exact .inr h.symm

/-- One field more on one of two rows, either of which may be none yet; the field's box may lie behind both. -/
theorem two_more {w wr w2 : World} {e : TypeId} {u v : Value} {n1 n2 g cap H : Nat} {F1 : List Fel} {T1 : List (Option Addr × Nat)} {xs2 : List Value} {f : Fel} {s : Option Addr × Nat} {o : Obj} (hb : Below w.heap.size w wr) (hT : T1.length = F1.length) (hne : v.ownBlock = none ∨ v.ownBlock ≠ u.ownBlock)
    (h1 : wr.ownsRow w.heap.size e 4 u n1 (rcells F1 T1)) (h2 : wr.ownsRow w.heap.size e 4 v n2 xs2)
    (hown : w2.ownsRow w.heap.size e 4 (.slice (some ⟨g, 0, none⟩) (n1 + 1) cap) (n1 + 1) (rcells F1 T1 ++ fcells f s)) (hgrow : (wr.alloc o).grownBy w2 u.ownBlock) (hat : u.ownBlock = some g ∨ g = H) (hH : H = wr.heap.size + 1) :
    w2.ownsRow w.heap.size e 4 (.slice (some ⟨g, 0, none⟩) (n1 + 1) cap) (n1 + 1) (rcells (F1 ++ [f]) (T1 ++ [s])) ∧ w2.ownsRow w.heap.size e 4 v n2 xs2 ∧ (v.ownBlock = none ∨ v.ownBlock ≠ some g) ∧ Below w.heap.size w w2 := by
  have hsz := hb.size
  have hb2 : Below w.heap.size w w2 := (hb.alloc hsz _).grown hgrow (by simp; omega) (fun k hk => (h1.lt k hk).1)
  refine ⟨?_, (h2.alloc o).kept hgrow hne, ?_, hb2⟩
  · rw [rcells_app _ _ _ _ hT, rcells_one]; exact hown
  · rcases hat with h | h
    · rw [← h]; exact hne
    · right
      intro e
      have := (h2.lt g e).2
      omega

set_option maxHeartbeats 1000000 in
set_option maxRecDepth 100000 in
theorem split_row (A : Option Addr) (n c : Nat) (most : Int) (l : List Fel) (S : List (Option Addr × Nat)) (w : World) (h : RdF w w.heap.size A n l S) (hnc : n ≤ c) (hmax : c ≤ 9223372036854775807) (hn : n ≤ 20000) (_hw : ∀ f ∈ l, Fok f) (_hm : -9223372036854775808 ≤ most ∧ most ≤ 9223372036854775807) :
    Calls Try.prog 56 #[.slice A n c, .int .i64 most] w fun e w' => ∃ u v, e = .returned (.tuple #[u, v]) ∧ NewRow w' (l.filter fun f => decide (f.num ≤ most)) u ∧ NewRow w' (l.filter fun f => !decide (f.num ≤ most)) v ∧ Below w.heap.size w w' := by
  obtain ⟨i0, hi, hz0, hz1, hz2⟩ := info_parts field_info
  have HR := Lib.hid h
  have HN := Lib.hid h.1
  clear h
  go_enter Try.func56, Try.ntmps56
  go_wp2
  go_loopw [4, 5, 10] (fun u v i wr => ∃ (j n1 n2 : Nat) (F1 F2 : List Fel) (T1 T2 : List (Option Addr × Nat)), j ≤ n ∧ i = .int .i64 (j : Int) ∧ (v.ownBlock = none ∨ v.ownBlock ≠ u.ownBlock) ∧ n1 ≤ j ∧ n2 ≤ j ∧
      wr.ownsRow w.heap.size 55 4 u n1 (rcells F1 T1) ∧ wr.ownsRow w.heap.size 55 4 v n2 (rcells F2 T2) ∧
      Pairs F1 T1 l S ∧ Pairs F2 T2 l S ∧ (l.take j).filter (fun f => decide (f.num ≤ most)) = F1 ∧ (l.take j).filter (fun f => !decide (f.num ≤ most)) = F2 ∧ F1.length = n1 ∧ F2.length = n2 ∧ Below w.heap.size w wr) (fun _ _ i _ => n - (intOf i).toNat)
  case atStart => exact ⟨0, 0, 0, [], [], [], [], by omega, rfl, .inl rfl, by omega, by omega, World.ownsRow_nil _ _ _ _, World.ownsRow_nil _ _ _ _, Pairs.nil _ _, Pairs.nil _ _, rfl, rfl, rfl, rfl, Below.refl _ _⟩
  case round =>
    obtain ⟨j, n1, n2, F1, F2, T1, T2, hj, rfl, hne, hn1, hn2, hown1, hown2, hp1, hp2, hF1, hF2, hl1, hl2, hb⟩ := hrel
    have HO1 := Lib.hid hown1
    have HO2 := Lib.hid hown2
    have HF1 := Lib.hid hF1
    have HF2 := Lib.hid hF2
    have HL1 := Lib.hid hl1
    have HL2 := Lib.hid hl2
    have HNE := Lib.hid hne
    have hsz := hb.size
    clear hown1 hown2 hF1 hF2 hl1 hl2 hne
    by_cases hlt : j < n
    · obtain ⟨ad, f, s, rfl, hab, hf, hs, k0, k1, k2, k3, hrd, hs1, hs2⟩ := (HR.out.below hb).spell hlt
      have hw1 := few_one f.num f.wire (f.n : Int) s.1 f.b.length s.2
      have hTF1 := hp1.1
      have hTF2 := hp2.1
      have HFF := Lib.hid hf
      have HSS := Lib.hid hs
      clear hf hs
      obtain ⟨wb, hwb⟩ : ∃ wb, wb = wr.alloc (.cells #[.int .i64 f.num, .int .i64 f.wire, .int .u64 (f.n : Int), .slice s.1 f.b.length s.2] 55) := ⟨_, rfl⟩
      have hbb : Below w.heap.size w wb := by rw [hwb]; exact hb.alloc hsz _
      have hszb := hbb.size
      have ho1 := HO1.out.alloc (.cells #[.int .i64 f.num, .int .i64 f.wire, .int .u64 (f.n : Int), .slice s.1 f.b.length s.2] 55)
      rw [← hwb] at ho1
      have ho2 := HO2.out.alloc (.cells #[.int .i64 f.num, .int .i64 f.wire, .int .u64 (f.n : Int), .slice s.1 f.b.length s.2] 55)
      rw [← hwb] at ho2
      have HB1 := Lib.hid ho1
      have HB2 := Lib.hid ho2
      have HWB := Lib.hid hwb
      have HWS := Lib.hid (show wr.heap.size + 1 + 1 = wb.heap.size + 1 by rw [hwb]; simp)
      clear hwb ho1 ho2
      by_cases hm : f.num ≤ most
      · go_wp2_with (at_builtin; refine wpList_append_lies _ rfl (.tmp 18) (.tmp 20) 40 rfl w.heap.size 55 i0 (.agg #[.int .i64 0, .int .i64 0, .int .u64 0, .slice none 0 0]) 4 48 Try.underlying40 hi hz0 hz1 hz2 rfl (by decide) _ n1 _ rfl ((HO1.out.alloc _).alloc _) ⟨wr.heap.size + 1, 0, none⟩ 1 1 [.int .i64 f.num, .int .i64 f.wire, .int .u64 (f.n : Int), .slice s.1 f.b.length s.2] rfl rfl (by have h0 := cells4_new (wr.alloc (.cells #[.int .i64 f.num, .int .i64 f.wire, .int .u64 (f.n : Int), .slice s.1 f.b.length s.2] 55)) (.int .i64 f.num) (.int .i64 f.wire) (.int .u64 (f.n : Int)) (.slice s.1 f.b.length s.2) 55; simpa using h0) hw1 (by decide) (by unfold maxLen; omega) (by omega) (by simp; omega) (wr.heap.size + 1 + 1) (by simp) ?_)
        intro g cap w2 hown hgrow hat hltg
        rw [← HWB.out] at hgrow
        obtain ⟨r1, r2, r3, r6⟩ := two_more (f := f) (s := s) hbb hTF1 HNE.out HB1.out HB2.out hown hgrow hat HWS.out
        clear hown hgrow hat hltg
        go_wp2
        go_roundw
        case rel =>
          refine ⟨j + 1, n1 + 1, n2, F1 ++ [f], F2, T1 ++ [s], T2, by omega, by go_num, r3, by omega, by omega, r1, r2, hp1.snoc HFF.out HSS.out, hp2, ?_, ?_, by simp [HL1.out], HL2.out, r6⟩
          · rw [filter_snoc _ HFF.out, HF1.out, if_pos (by simpa using hm)]
          · rw [filter_snoc _ HFF.out, HF2.out, if_neg (by simpa using hm)]; simp
        case measure => simp [intOf]; omega
      · go_wp2_with (at_builtin; refine wpList_append_lies _ rfl (.tmp 22) (.tmp 24) 40 rfl w.heap.size 55 i0 (.agg #[.int .i64 0, .int .i64 0, .int .u64 0, .slice none 0 0]) 4 48 Try.underlying40 hi hz0 hz1 hz2 rfl (by decide) _ n2 _ rfl ((HO2.out.alloc _).alloc _) ⟨wr.heap.size + 1, 0, none⟩ 1 1 [.int .i64 f.num, .int .i64 f.wire, .int .u64 (f.n : Int), .slice s.1 f.b.length s.2] rfl rfl (by have h0 := cells4_new (wr.alloc (.cells #[.int .i64 f.num, .int .i64 f.wire, .int .u64 (f.n : Int), .slice s.1 f.b.length s.2] 55)) (.int .i64 f.num) (.int .i64 f.wire) (.int .u64 (f.n : Int)) (.slice s.1 f.b.length s.2) 55; simpa using h0) hw1 (by decide) (by unfold maxLen; omega) (by omega) (by simp; omega) (wr.heap.size + 1 + 1) (by simp) ?_)
        intro g cap w2 hown hgrow hat hltg
        rw [← HWB.out] at hgrow
        obtain ⟨r1, r2, r3, r6⟩ := two_more (f := f) (s := s) hbb hTF2 (ne_symm HNE.out) HB2.out HB1.out hown hgrow hat HWS.out
        clear hown hgrow hat hltg
        go_wp2
        go_roundw
        case rel =>
          refine ⟨j + 1, n1, n2 + 1, F1, F2 ++ [f], T1, T2 ++ [s], by omega, by go_num, ne_symm r3, by omega, by omega, r2, r1, hp1, hp2.snoc HFF.out HSS.out, ?_, ?_, HL1.out, by simp [HL2.out], r6⟩
          · rw [filter_snoc _ HFF.out, HF1.out, if_neg (by simpa using hm)]; simp
          · rw [filter_snoc _ HFF.out, HF2.out, if_pos (by simpa using hm)]
        case measure => simp [intOf]; omega
    · obtain rfl : j = n := by omega
      have hk : l.take j = l := List.take_of_length_le (by have := HN.out; omega)
      have e1 := HF1.out
      have e2 := HF2.out
      rw [hk] at e1 e2
      have HE1 := Lib.hid e1
      have HE2 := Lib.hid e2
      obtain ⟨A1, c1, hv1, x1, x2, x3⟩ := RdF.of_own HO1.out HL1.out (by rw [hp1.1]; exact HL1.out) hsz (hp1.rd (HR.out.below hb))
      obtain ⟨A2, c2, hv2, y1, y2, y3⟩ := RdF.of_own HO2.out HL2.out (by rw [hp2.1]; exact HL2.out) hsz (hp2.rd (HR.out.below hb))
      have M1 := Lib.hid (show NewRow wr F1 _ from ⟨A1, n1, c1, T1, hv1, x1, x2, x3⟩)
      have M2 := Lib.hid (show NewRow wr F2 _ from ⟨A2, n2, c2, T2, hv2, y1, y2, y3⟩)
      clear e1 e2 hk hv1 hv2 x1 x2 x3 y1 y2 y3 hp1 hp2
      go_wp2
      go_ret2
      exact ⟨_, _, rfl, by rw [HE1.out]; exact M1.out, by rw [HE2.out]; exact M2.out, hb⟩
end Go.Proofs.Ytkagonijkalicaa
