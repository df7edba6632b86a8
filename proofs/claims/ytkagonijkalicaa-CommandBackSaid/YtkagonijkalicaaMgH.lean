/-
  Several texts in one: ViWalk0, ViPut, TgMay, ViTake, TgCl, TgProg.
-/
import Derived.Test.YtkagonijkalicaaChecked
import Derived.Test.YtkagonijkalicaaMgD
import Derived.Test.YtkagonijkalicaaViLen
import Derived.WalkKit
import Derived.Lib.Hide
import Derived.Lib.Walk
import Derived.Test.YtkagonijkalicaaWords
import Derived.Test.YtkagonijkalicaaMgG
set_option linter.unusedVariables false
set_option linter.unusedSimpArgs false

/-
  The walks of the functions of layer 1 that only reckon.
-/
namespace Go.Proofs.Ytkagonijkalicaa.Vi
open Go.RowKit

theorem ret_int {k : IntKind} {a b : Int} (h : a = b) : Ending.returned (.int k a) = .returned (.int k b) := by rw [h]

theorem size_any (n : Int) (w : World) (h0 : 0 ≤ n) (h1 : n ≤ 18446744073709551615) :
    Calls Try.prog 62 #[.int .u64 n] w fun e w' => e = .returned (.int .i64 ((put n.toNat).length : Nat)) ∧ w = w' := by
  have e : bits .or .u64 n 1 = ((n.toNat ||| 1 : Nat) : Int) := u64_or n 1 h0 (by omega) (by omega) (by omega)
  have hp := put_bits n.toNat (by omega)
  have ho := or_one n.toNat
  have hl : Lib.bitLen (n.toNat ||| 1) ≤ 64 := Lib.bitLen_le _ 64 (by omega) (by omega)
  have HP : Hid ((Lib.bitLen (n.toNat ||| 1) + 6) / 7 = (put n.toNat).length) := hp
  clear hp
  go_enter Try.func62, Try.ntmps62
  go_wp2_with (go_at_call 81; refine (len64_any _ _ (by omega) (by omega)).mono ?_; rintro e w' ⟨rfl, rfl⟩)
  go_ret
  refine ⟨ret_int ?_, rfl⟩
  have := HP.out
  omega
end Go.Proofs.Ytkagonijkalicaa.Vi

/-
  The walks of the two ways to lay a number down.
-/
namespace Go.Proofs.Ytkagonijkalicaa.Vi
open Go.RowKit

set_option maxHeartbeats 1000000 in
set_option maxRecDepth 100000 in
theorem put_any (n : Nat) (w : World) (hn : n < 18446744073709551616) : Calls Try.prog 35 #[.int .u64 (n : Int)] w (NewBytes w (put n)) := by
  obtain ⟨i0, hi, hz0, hz1, hz2⟩ := info_parts byte_info
  have hl := put_len n
  obtain ⟨L, hL⟩ : ∃ L, L = (put n).length := ⟨_, rfl⟩
  rw [← hL] at hl
  have HL := Lib.hid hL
  clear hL
  go_enter Try.func35, Try.ntmps35
  go_wp2_with (first
    | (go_at_call 62; refine (size_any _ _ (by omega) (by omega)).mono ?_; rintro e w' ⟨rfl, rfl⟩; rw [Int.toNat_natCast, ← HL.out])
    | (at_make; refine wpList_make_own _ rfl _ _ 25 rfl w.heap.size 5 i0 (.int .u8 0) 1 Try.underlying25 hi hz0 hz1 _ _ _ L rfl rfl rfl (by rw [hz2]; omega) (by unfold maxLen; omega) (Nat.le_refl _) ?_))
  intro w1 hown1 hg1
  have hb1 : Below w.heap.size w w1 := (Below.refl _ _).grown hg1 (Nat.le_refl _) (by simp)
  clear hg1
  go_wp2
  go_loopw [0, 4, 11] (fun nn b i wr => ∃ (j m : Nat) (acc : List Nat), j + 1 ≤ L ∧ nn = .int .u64 (m : Int) ∧ b = .slice (some ⟨w.heap.size, 0, none⟩) j L ∧ i = .int .i64 (j : Int) ∧
      wr.ownsRow w.heap.size 5 1 (.slice (some ⟨w.heap.size, 0, none⟩) j L) j (bvs acc) ∧ Below w.heap.size w wr ∧ acc ++ putF (9 - j) m = put n ∧ m < 2 ^ (7 * (9 - j) + 1) ∧ acc.length = j)
    (fun _ _ i _ => L - (intOf i).toNat)
  case atStart => exact ⟨0, n, [], by omega, rfl, rfl, rfl, hown1, hb1, by simp [put], by simpa using hn, rfl⟩
  case round =>
    obtain ⟨j, m, acc, hj, rfl, rfl, rfl, hown, hb, hput, hm, hacc⟩ := hrel
    have HO := Lib.hid hown
    have HP := Lib.hid hput
    have HA := Lib.hid hacc
    have HM := Lib.hid hm
    have hm64 : m < 18446744073709551616 := by
      have h1 : 2 ^ (7 * (9 - j) + 1) ≤ 2 ^ 64 := Nat.pow_le_pow_right (by omega) (by omega)
      omega
    have hor := or128 (m % 256 : Int) (by omega) (by omega)
    clear hown hput hacc hm
    have hsz := hb.size
    by_cases hlt : j + 1 < L
    · go_wp2_with (at_builtin; refine wpList_append_fits _ rfl _ _ 25 rfl w.heap.size 5 i0 1 Try.underlying25 hi hz1 w.heap.size j L (bvs acc) rfl (HO.out.alloc _) ⟨wr.heap.size, 0, none⟩ 1 1 [.int .u8 ((m : Int) % 128 + 128)] rfl rfl (cell_new _ _ _) (by intro u hu; simp at hu; subst hu; rfl) (by omega) ?_)
      intro w2 hown2 hg2
      have hb2 : Below w.heap.size w w2 := (hb.alloc hsz _).grown hg2 (by simp; omega) (fun k hk => by cases hk; exact Nat.le_refl _)
      clear hg2
      go_wp2
      go_roundw
      case rel =>
        have hm2 : ¬ m < 128 := by
          intro h
          have h1 := congrArg List.length HP.out
          rw [List.length_append, HA.out, show 9 - j = (9 - j - 1) + 1 by omega, putF, if_pos h, ← HL.out] at h1
          simp at h1; omega
        refine ⟨j + 1, m / 128, acc ++ [m % 128 + 128], by omega, by go_num, rfl, by go_num, ?_, hb2, ?_, ?_, by simp [HA.out]⟩
        · rw [bvs_app]; exact hown2
        · have h1 := HP.out
          rw [show 9 - j = (9 - (j + 1)) + 1 by omega, putF, if_neg hm2] at h1
          rw [List.append_assoc]; exact h1
        · have h1 := HM.out
          rw [show 9 - j = (9 - (j + 1)) + 1 by omega, pow71] at h1
          omega
      case measure => simp [intOf]; omega
    · obtain rfl : L = j + 1 := by omega
      go_wp2_with (at_builtin; refine wpList_append_fits _ rfl _ _ 25 rfl w.heap.size 5 i0 1 Try.underlying25 hi hz1 w.heap.size j (j + 1) (bvs acc) rfl (HO.out.alloc _) ⟨wr.heap.size, 0, none⟩ 1 1 [.int .u8 ((m : Int) % 256)] rfl rfl (cell_new _ _ _) (by intro u hu; simp at hu; subst hu; rfl) (by omega) ?_)
      intro w2 hown2 hg2
      have hb2 : Below w.heap.size w w2 := (hb.alloc hsz _).grown hg2 (by simp; omega) (fun k hk => by cases hk; exact Nat.le_refl _)
      clear hg2
      go_wp2
      go_ret
      refine ⟨_, rfl, ?_, hb2⟩
      have h1 := HP.out
      have h2 := congrArg List.length h1
      rw [List.length_append, HA.out, ← HL.out] at h2
      have h3 : putF (9 - j) m = [m % 256] := by
        have hm9 := HM.out
        generalize 9 - j = f at *
        cases f with
        | zero => simp at hm9; simp [putF]; omega
        | succ f =>
          unfold putF at h2 ⊢
          by_cases hm2 : m < 128
          · rw [if_pos hm2]; simp; omega
          · rw [if_neg hm2] at h2
            have := putF_len f (m / 128)
            simp only [List.length_cons] at h2; omega
      rw [← h1, h3]
      rw [bvs_app, List.length_append, HA.out]
      exact hown2
set_option maxRecDepth 100000 in
theorem put_int (x : Int) (w : World) (h0 : 0 ≤ x) (h1 : x ≤ 18446744073709551615) : Calls Try.prog 35 #[.int .u64 x] w (NewBytes w (put x.toNat)) := by
  obtain ⟨n, rfl⟩ := Int.eq_ofNat_of_zero_le h0
  rw [Int.toNat_natCast]
  exact put_any n w (by omega)
end Go.Proofs.Ytkagonijkalicaa.Vi

/-
  The walks of the landed layer 2: may, Put.
-/
namespace Go.Proofs.Ytkagonijkalicaa.Tg
open Go.RowKit
open Go.Proofs.Ytkagonijkalicaa.Vi (put take put_len put_byte take_put take_put0 take_back take_cut take_err put_inj taken put_any put_int)

set_option maxRecDepth 100000 in
theorem may_tag (num wire : Int) (w : World) (n0 : -9223372036854775808 ≤ num) (n1 : num ≤ 9223372036854775807) (k0 : -9223372036854775808 ≤ wire) (k1 : wire ≤ 9223372036854775807) :
    Calls Try.prog 93 #[.int .i64 num, .int .i64 wire] w fun e w' => e = .returned (.bool (okTag num wire)) ∧ w = w' := by
  cases ho : okTag num wire with
  | false =>
    by_cases h1 : num < 1
    · go_enter Try.func93, Try.ntmps93
      go_wp2_with fail
      go_ret
      exact ⟨rfl, rfl⟩
    · by_cases h2 : 1000 < num
      · go_enter Try.func93, Try.ntmps93
        go_wp2_with fail
        go_ret
        exact ⟨rfl, rfl⟩
      · have h3 : ¬ (wire = 0 ∨ wire = 2) := fun h => by rw [okTag_iff.2 ⟨by omega, by omega, h⟩] at ho; cases ho
        have q1 : (wire == 0) = false := by rw [beq_eq_false_iff_ne]; omega
        have q2 : (wire == 2) = false := by rw [beq_eq_false_iff_ne]; omega
        clear h3
        go_enter Try.func93, Try.ntmps93
        go_wp2_with fail
        go_ret
        exact ⟨rfl, rfl⟩
  | true =>
    obtain ⟨h1, h2, h3⟩ := okTag_iff.1 ho
    clear ho
    rcases h3 with rfl | rfl
    · go_enter Try.func93, Try.ntmps93
      go_wp2_with fail
      go_ret
      exact ⟨rfl, rfl⟩
    · go_enter Try.func93, Try.ntmps93
      go_wp2_with fail
      go_ret
      exact ⟨rfl, rfl⟩

set_option maxRecDepth 100000 in
theorem put_tag (num wire : Int) (w : World) (n0 : -9223372036854775808 ≤ num) (n1 : num ≤ 9223372036854775807) (k0 : -9223372036854775808 ≤ wire) (k1 : wire ≤ 9223372036854775807) :
    Calls Try.prog 83 #[.int .i64 num, .int .i64 wire] w (NewPair w (tput num wire).1 ((tput num wire).2 : Nat)) := by
  have hm := Lib.hid (may_tag num wire w n0 n1 k0 k1)
  cases ho : okTag num wire with
  | false =>
    rw [tput_no ho]
    go_enter Try.func83, Try.ntmps83
    go_wp2_with fail
    refine hm.out.mono ?_
    rintro e w' ⟨rfl, rfl⟩
    rw [ho]
    clear ho
    go_wp2
    go_ret2
    exact pair_no w
  | true =>
    rw [tput_ok ho]
    obtain ⟨h1, h2, h3⟩ := okTag_iff.1 ho
    have h4 : 0 ≤ wire ∧ wire ≤ 2 := by omega
    clear h3
    go_enter Try.func83, Try.ntmps83
    go_wp2_with fail
    refine hm.out.mono ?_
    rintro e w' ⟨rfl, rfl⟩
    rw [ho]
    clear ho
    go_wp2_with fail
    refine (put_int (num * 8 + wire) w (by omega) (by omega)).mono ?_
    rintro e w' ⟨v, rfl, hown, hb⟩
    go_wp2
    go_ret2
    exact ⟨v, rfl, by rw [show 8 * num + wire = num * 8 + wire by omega]; exact hown, hb⟩
end Go.Proofs.Ytkagonijkalicaa.Tg

/-
  The walk of what is taken of bytes.
-/
namespace Go.Proofs.Ytkagonijkalicaa.Vi
open Go.RowKit

set_option maxHeartbeats 1000000 in
set_option maxRecDepth 100000 in
theorem take_any (A : Option Addr) (n c B : Nat) (bs : List Nat) (w : World) (hb : ∀ c ∈ bs, c < 256) (h : Rd w B 1 A n (bvs bs)) (hmax : n ≤ 9223372036854775807) :
    Calls Try.prog 39 #[.slice A n c] w fun e w' => e = .returned (taken (take bs)) ∧ w = w' := by
  have hlen : bs.length = n := by have := h.1; rw [bvs_len] at this; omega
  have HL := Lib.hid hlen
  have HB := Lib.hid hb
  have HR := Lib.hid h
  clear hlen hb h
  go_enter Try.func39, Try.ntmps39
  go_wp2
  go_step3
  go_wp2
  go_step3
  go_wp2
  go_loop [5, 8] (fun x i => ∃ (j f m : Nat), i = .int .i64 (j : Int) ∧ x = .int .u64 (m : Int) ∧ j + f = 10 ∧ j ≤ n ∧ m < 2 ^ (7 * j) ∧ take bs = tk f j m (bs.drop j)) (fun _ i => 10 - (intOf i).toNat)
  case atStart => exact ⟨0, 10, 0, rfl, rfl, rfl, by omega, by simp, rfl⟩
  case round =>
    obtain ⟨j, f, m, rfl, rfl, hf, hj, hm, hd⟩ := hrel
    have HD := Lib.hid hd
    have HM := Lib.hid hm
    clear hd hm
    by_cases h10 : j < 10
    · obtain ⟨g, rfl⟩ : ∃ g, f = g + 1 := ⟨f - 1, by omega⟩
      by_cases hjn : j = n
      · go_wp2
        go_ret3
        refine ⟨taken_of (x := 0) (k := 0) (e := 2) ?_ rfl rfl rfl, rfl⟩
        rw [HD.out, List.drop_eq_nil_of_le (by have := HL.out; omega)]; rfl
      · obtain ⟨ad, c0, rfl, hc0, hdr, _, hcell⟩ := HR.out.byte HB.out (show j < n by omega)
        have hv := HD.out
        rw [hdr] at hv
        have HV := Lib.hid hv
        have hor := or_digit m j c0 (by omega) HM.out
        have HO := Lib.hid hor
        clear hdr hv hor
        go_wp2
        · have h9 : (j : Int) = 9 := by assumption
          have hc1 : 1 < (c0 : Int) := by assumption
          go_ret3
          exact ⟨taken_of (HV.out.trans (tk_bad (.inl ⟨by omega, by omega⟩))) rfl rfl rfl, rfl⟩
        · have h9 : (j : Int) = 9 := by assumption
          have hc1 := WalkArith.int_eq (show ((c0 : Int) == 0) = true by assumption)
          go_ret3
          exact ⟨taken_of (HV.out.trans (tk_bad (.inr ⟨by omega, by omega⟩))) rfl rfl rfl, rfl⟩
        · have h9 : (j : Int) = 9 := by assumption
          have hc1 : (c0 : Int) ≤ 1 := by assumption
          have hc2 := WalkArith.int_ne (show ((c0 : Int) == 0) = false by assumption)
          go_ret3
          exact ⟨taken_of (HV.out.trans (tk_end (by omega) (by omega))) ((HO.out (fun _ => by omega)).trans (by rw [Nat.mod_eq_of_lt (by omega)])) (by omega) rfl, rfl⟩
        · have h9 : ¬ (j : Int) = 9 := by assumption
          have hj0 : 0 < j := by assumption
          have hc1 := WalkArith.int_eq (show ((c0 : Int) == 0) = true by assumption)
          go_ret3
          exact ⟨taken_of (HV.out.trans (tk_bad (.inr ⟨by omega, by omega⟩))) rfl rfl rfl, rfl⟩
        · have h9 : ¬ (j : Int) = 9 := by assumption
          have hj0 : 0 < j := by assumption
          have hc2 := WalkArith.int_ne (show ((c0 : Int) == 0) = false by assumption)
          have hc3 : (c0 : Int) < 128 := by assumption
          go_ret3
          exact ⟨taken_of (HV.out.trans (tk_end (by omega) (by omega))) ((HO.out (fun _ => by omega)).trans (by rw [Nat.mod_eq_of_lt (by omega)])) (by omega) rfl, rfl⟩
        · have h9 : ¬ (j : Int) = 9 := by assumption
          have hj0 : 0 < j := by assumption
          have hc2 := WalkArith.int_ne (show ((c0 : Int) == 0) = false by assumption)
          have hc3 : 128 ≤ (c0 : Int) := by assumption
          go_round
          case rel => exact ⟨j + 1, g, _, by go_num, congrArg (Value.int .u64) (HO.out (fun _ => by omega)), by omega, by omega, tk_less (by omega) HM.out, HV.out.trans (tk_on (by omega) (by omega))⟩
          case measure => simp [intOf]; omega
        · have hj0 : ¬ 0 < j := by assumption
          have hc3 : (c0 : Int) < 128 := by assumption
          go_ret3
          exact ⟨taken_of (HV.out.trans (tk_end (by omega) (by omega))) ((HO.out (fun _ => by omega)).trans (by rw [Nat.mod_eq_of_lt (by omega)])) (by omega) rfl, rfl⟩
        · have hj0 : ¬ 0 < j := by assumption
          have hc3 : 128 ≤ (c0 : Int) := by assumption
          go_round
          case rel => exact ⟨j + 1, g, _, by go_num, congrArg (Value.int .u64) (HO.out (fun _ => by omega)), by omega, by omega, tk_less (by omega) HM.out, HV.out.trans (tk_on (by omega) (by omega))⟩
          case measure => simp [intOf]; omega
    · go_wp2
      go_ret3
      refine ⟨taken_of (x := 0) (k := 0) (e := 3) ?_ rfl rfl rfl, rfl⟩
      rw [HD.out, show f = 0 by omega]; rfl
end Go.Proofs.Ytkagonijkalicaa.Vi

/-
  The walks of the landed layer 2: numbers, its closure, take.
-/
namespace Go.Proofs.Ytkagonijkalicaa.Tg
open Go.RowKit
open Go.Proofs.Ytkagonijkalicaa.Vi (put take put_len put_byte take_put take_put0 take_back take_cut take_err put_inj taken put_any put_int take_any)

/-- The closure that goes along the bytes, and what it keeps: the bytes, and where it is. -/
def Along (w : World) (g : Nat) (A : Option Addr) (n c : Nat) (k : Nat) : Prop := Blk w g 25 #[.slice A n c] ∧ Blk w (g + 1) 3 #[.int .i64 (k : Int)]
def nextOf (g : Nat) : Value := .func (.func 96) #[] #[.pointer (some ⟨g, 0, none⟩), .pointer (some ⟨g + 1, 0, none⟩)]

set_option maxRecDepth 100000 in
theorem numbers_any (A : Option Addr) (n c : Nat) (w : World) :
    Calls Try.prog 87 #[.slice A n c] w fun e w' => e = .returned (nextOf w.heap.size) ∧ Below w.heap.size w w' ∧ w'.heap.size = w.heap.size + 2 ∧ Along w' w.heap.size A n c 0 := by
  have hmf : ∀ (fn : Fn) (first cap : Array Value) (w : World), (Instr.makeFunc fn first cap).run Try.prog w = .ok (.func fn first cap) w := fun _ _ _ _ => rfl
  go_enter Try.func87, Try.ntmps87
  go_wp2
  go_ret
  exact ⟨rfl, ((Below.refl _ _).alloc (Nat.le_refl _) _).alloc (by simp) _, by simp, (Blk.new _ _ _).alloc _, by simpa using Blk.new (w.alloc (.cells #[.slice A n c] 25)) #[.int .i64 0] 3⟩

/-- What a step tells: the number, where it ends, the error. -/
def told (bs : List Nat) (k : Nat) : Value :=
  if (take (bs.drop k)).2.2 = 0 then .tuple #[.int .u64 ((take (bs.drop k)).1 : Int), .int .i64 ((k + (take (bs.drop k)).2.1 : Nat) : Int), .int .i64 0]
  else .tuple #[.int .u64 0, .int .i64 0, .int .i64 ((take (bs.drop k)).2.2 : Int)]

set_option maxHeartbeats 1000000 in
set_option maxRecDepth 100000 in
theorem next_any (g : Nat) (A : Option Addr) (n c k : Nat) (bs : List Nat) (w : World) (hb : ∀ c ∈ bs, c < 256) (h : Rd w g 1 A n (bvs bs)) (hk : k ≤ n) (hnc : n ≤ c) (hmax : c ≤ 9223372036854775807) (hg : Along w g A n c k) :
    Calls Try.prog 96 #[.pointer (some ⟨g, 0, none⟩), .pointer (some ⟨g + 1, 0, none⟩)] w fun e w' => e = .returned (told bs k) ∧ Below g w w' ∧ w'.heap.size = w.heap.size ∧ ((take (bs.drop k)).2.2 = 0 → Along w' g A n c (k + (take (bs.drop k)).2.1)) := by
  obtain ⟨x, m, e, hx⟩ : ∃ x m e, take (bs.drop k) = (x, m, e) := ⟨_, _, _, rfl⟩
  have hlen : bs.length = n := by have := h.1; rw [bvs_len] at this; omega
  have hbd : ∀ c ∈ bs.drop k, c < 256 := fun c hc => hb c (List.mem_of_mem_drop hc)
  have hle := take_le hbd
  rw [hx] at hle
  obtain ⟨hm10, hml, hx64, he3⟩ : m ≤ 10 ∧ m ≤ (bs.drop k).length ∧ x < 18446744073709551616 ∧ e ≤ 3 := hle
  have hml : m ≤ n - k := by rw [List.length_drop] at hml; omega
  obtain ⟨hA, hK⟩ := hg
  have hlt := hK.lt
  have c0 := hA.cell 0
  have c1 := hK.cell 0
  have z1 := hK.frozen 0
  simp at c0 c1
  obtain ⟨i0, hi, hz0, hz1, hz2⟩ := info_parts byte_info
  have hsl := run_from (P := Try.prog) 25 5 i0 1 Try.underlying25 hi hz1 A n c k .i64 hk
  have hcut := h.bytes_from hk hnc
  have HB := Lib.hid hbd
  have HC := Lib.hid hcut
  have HA := Lib.hid hA
  have HK := Lib.hid hK
  have HX := Lib.hid hx
  have HT2 := Lib.hid (show taken (take (bs.drop k)) = .tuple #[.int .u64 (x : Int), .int .i64 (m : Int), .int .i64 (e : Int)] by rw [hx]; rfl)
  clear hx hcut hbd h hb hA hK hlen
  generalize cutAt A c 1 k = A2 at *
  by_cases he : e = 0
  · subst he
    go_enter Try.func96, Try.ntmps96
    go_wp2_with fail
    refine (take_any A2 (n - k) (c - k) g (bs.drop k) w HB.out HC.out (by omega)).mono ?_
    rintro e' w1 ⟨rfl, rfl⟩
    rw [HT2.out]
    go_wp2
    obtain ⟨w2, hw2⟩ : ∃ w2, w2 = w.setCell ⟨g + 1, 0, none⟩ (.int .i64 ((k : Int) + (m : Int))) := ⟨_, rfl⟩
    have hb2 : Below g w w2 := by rw [hw2]; exact (Below.refl _ _).setCell (by simp) _
    have hs2 : w2.heap.size = w.heap.size := by rw [hw2]; simp [World.setCell]
    have hA2 : Blk w2 g 25 #[.slice A n c] := by rw [hw2]; exact HA.out.far (by simp) _
    have hK2 : Blk w2 (g + 1) 3 #[.int .i64 ((k : Int) + (m : Int))] := by rw [hw2]; simpa using HK.out.put 0 (.int .i64 ((k : Int) + (m : Int)))
    rw [← hw2]
    clear hw2
    have d1 := hK2.cell 0
    simp at d1
    have HV := Lib.hid (show told bs k = .tuple #[.int .u64 (x : Int), .int .i64 ((k + m : Nat) : Int), .int .i64 0] by unfold told; rw [HX.out]; rfl)
    go_region
    all_goals (try go_wp2)
    all_goals go_ret3
    all_goals exact ⟨by rw [HV.out]; exact ret_tuple (by simp), hb2.drew, hs2, fun _ => by rw [HX.out]; exact ⟨hA2, by rw [show ((k + m : Nat) : Int) = (k : Int) + (m : Int) by simp]; exact hK2⟩⟩
  · have q1 : ((e : Int) != 0) = true := by rw [bne_iff_ne]; omega
    go_enter Try.func96, Try.ntmps96
    go_wp2_with fail
    refine (take_any A2 (n - k) (c - k) g (bs.drop k) w HB.out HC.out (by omega)).mono ?_
    rintro e' w1 ⟨rfl, rfl⟩
    rw [HT2.out]
    go_wp2
    go_ret3
    have HV := Lib.hid (show told bs k = .tuple #[.int .u64 0, .int .i64 0, .int .i64 (e : Int)] by unfold told; rw [HX.out]; exact if_neg he)
    exact ⟨by rw [HV.out]; rfl, Below.refl _ _, rfl, fun h0 => by rw [HX.out] at h0; exact absurd h0 he⟩

set_option maxHeartbeats 1000000 in
set_option maxRecDepth 100000 in
theorem take_cl (g : Nat) (A : Option Addr) (n c : Nat) (bs : List Nat) (w : World) (hb : ∀ c ∈ bs, c < 256) (h : Rd w g 1 A n (bvs bs)) (hnc : n ≤ c) (hmax : c ≤ 9223372036854775807) (hg : Along w g A n c 0) :
    Calls Try.prog 88 #[nextOf g] w fun e w' => e = .returned (tagged (ttake bs)) ∧ Below g w w' ∧ w'.heap.size = w.heap.size ∧ ((ttake bs).err = 0 → Along w' g A n c (ttake bs).size) := by
  obtain ⟨x, m, e, hx⟩ : ∃ x m e, take bs = (x, m, e) := ⟨_, _, _, rfl⟩
  have hle := take_le hb
  rw [hx] at hle
  obtain ⟨hm10, hml, hx64, he3⟩ : m ≤ 10 ∧ m ≤ bs.length ∧ x < 18446744073709551616 ∧ e ≤ 3 := hle
  have hx0 : take (bs.drop 0) = (x, m, e) := by simpa using hx
  have HX := Lib.hid hx
  by_cases he : e = 0
  · subst he
    have HT := Lib.hid (show told bs 0 = .tuple #[.int .u64 (x : Int), .int .i64 (m : Int), .int .i64 0] by unfold told; rw [hx0]; simp)
    rw [← show bs.drop 0 = bs from rfl] at hx
    have hgo := next_any g A n c 0 bs w hb h (by omega) hnc hmax hg
    rw [hx0] at hgo
    have HG := Lib.hid hgo
    clear hx hx0 hgo hg h hb
    go_enter Try.func88, Try.ntmps88
    unfold nextOf
    go_wp2_with fail
    refine HG.out.mono ?_
    rintro e' w1 ⟨rfl, hb1, hs1, hk⟩
    rw [HT.out]
    have hk := hk trivial
    rw [Nat.zero_add] at hk
    have HK := Lib.hid hk
    clear hk
    go_wp2_with fail
    rw [show (x : Int) / 8 = ((x / 8 : Nat) : Int) by omega, show (x : Int) % 8 = ((x % 8 : Nat) : Int) by omega]
    refine (may_tag ((x / 8 : Nat) : Int) ((x % 8 : Nat) : Int) w1 (by omega) (by omega) (by omega) (by omega)).mono ?_
    rintro e' w2 ⟨rfl, rfl⟩
    cases ho : okTag (x / 8 : Nat) (x % 8 : Nat) with
    | false =>
      have HV := Lib.hid (ttake_no HX.out ho)
      clear ho
      go_wp2
      refine bodyPost_ret (results4 rfl _ _ _) rfl ?_
      exact ⟨by rw [HV.out]; rfl, hb1, hs1, fun h => by rw [HV.out] at h; cases h⟩
    | true =>
      have HV := Lib.hid (ttake_ok HX.out ho)
      clear ho
      go_wp2
      refine bodyPost_ret (results4 rfl _ _ _) rfl ?_
      exact ⟨by rw [HV.out]; rfl, hb1, hs1, fun _ => by rw [HV.out]; exact HK.out⟩
  · have q1 : ((e : Int) != 0) = true := by rw [bne_iff_ne]; omega
    have HT := Lib.hid (show told bs 0 = .tuple #[.int .u64 0, .int .i64 0, .int .i64 (e : Int)] by unfold told; rw [hx0]; exact if_neg he)
    have hgo := next_any g A n c 0 bs w hb h (by omega) hnc hmax hg
    have HG := Lib.hid hgo
    have HV := Lib.hid (ttake_bad HX.out he)
    clear hx hx0 hgo hg h hb
    go_enter Try.func88, Try.ntmps88
    unfold nextOf
    go_wp2_with fail
    refine HG.out.mono ?_
    rintro e' w1 ⟨rfl, hb1, hs1, _⟩
    rw [HT.out]
    go_wp2
    refine bodyPost_ret (results4 rfl _ _ _) rfl ?_
    exact ⟨by rw [HV.out]; rfl, hb1, hs1, fun h => by rw [HV.out] at h; exact absurd h he⟩
end Go.Proofs.Ytkagonijkalicaa.Tg

/-
  The walks of the landed tag.Take and Skip.
-/
namespace Go.Proofs.Ytkagonijkalicaa.Tg
open Go.RowKit
open Go.Proofs.Ytkagonijkalicaa.Vi (put take put_len put_byte take_put take_put0 take_back take_cut take_err put_inj taken put_any put_int take_any)

set_option maxRecDepth 100000 in
theorem take_tag (A : Option Addr) (n c : Nat) (bs : List Nat) (w : World) (hb : ∀ c ∈ bs, c < 256) (h : Rd w w.heap.size 1 A n (bvs bs)) (hnc : n ≤ c) (hmax : c ≤ 9223372036854775807) :
    Calls Try.prog 89 #[.slice A n c] w fun e w' => e = .returned (tagged (ttake bs)) ∧ Below w.heap.size w w' := by
  go_enter Try.func89, Try.ntmps89
  go_wp2_with fail
  refine (numbers_any A n c w).mono ?_
  rintro e w1 ⟨rfl, hb1, hs1, hg⟩
  go_wp2_with fail
  refine (take_cl w.heap.size A n c bs w1 hb (h.below hb1) hnc hmax hg).mono ?_
  rintro e w2 ⟨rfl, hb2, _⟩
  unfold tagged
  go_wp2
  refine bodyPost_ret (results4 rfl _ _ _) rfl ?_
  exact ⟨rfl, hb1.trans hb2⟩

set_option maxHeartbeats 1000000 in
set_option maxRecDepth 100000 in
theorem skip_tag (A : Option Addr) (n c : Nat) (bs : List Nat) (w : World) (hb : ∀ c ∈ bs, c < 256) (h : Rd w w.heap.size 1 A n (bvs bs)) (hnc : n ≤ c) (hmax : c ≤ 9223372036854775807) :
    Calls Try.prog 73 #[.slice A n c] w fun e w' => e = .returned (.tuple #[.int .i64 ((tskip bs).1 : Nat), .int .i64 ((tskip bs).2 : Nat)]) ∧ Below w.heap.size w w' := by
  obtain ⟨num, wire, size, err, ht⟩ : ∃ num wire size err, ttake bs = ⟨num, wire, size, err⟩ := ⟨_, _, _, _, rfl⟩
  have hle := ttake_le hb
  rw [ht] at hle
  obtain ⟨hn1, hw1, hs1, hs2⟩ : num ≤ 1000 ∧ wire ≤ 2 ∧ size ≤ 10 ∧ size ≤ bs.length := hle
  have hlen : bs.length = n := by have := h.1; rw [bvs_len] at this; omega
  have hs3 : size ≤ n := by omega
  have HT := Lib.hid (show tagged (ttake bs) = .tuple #[.int .i64 (num : Int), .int .i64 (wire : Int), .int .i64 (size : Int), .int .i64 (err : Int)] by rw [ht]; rfl)
  have HL := Lib.hid hlen
  have HH := Lib.hid ht
  have HR := Lib.hid h
  have HB := Lib.hid hb
  by_cases he : err = 0
  · subst he
    have hback := ttake_back hb (by rw [ht])
    rw [ht] at hback
    obtain ⟨hok, hsz1, _⟩ : okTag num wire = true ∧ 1 ≤ size ∧ _ := hback
    have hwire : wire = 0 ∨ wire = 2 := by have := (okTag_iff.1 hok).2.2; omega
    clear hok
    have hbd : ∀ c ∈ bs.drop size, c < 256 := fun c hc => hb c (List.mem_of_mem_drop hc)
    obtain ⟨x, k, e, hx⟩ : ∃ x k e, take (bs.drop size) = (x, k, e) := ⟨_, _, _, rfl⟩
    have hle2 := take_le hbd
    rw [hx] at hle2
    obtain ⟨hk10, hkl, hx64, he3⟩ : k ≤ 10 ∧ k ≤ (bs.drop size).length ∧ x < 18446744073709551616 ∧ e ≤ 3 := hle2
    have hkl : k ≤ n - size := by rw [List.length_drop] at hkl; omega
    have HX := Lib.hid hx
    clear ht hlen h hb hbd
    go_enter Try.func73, Try.ntmps73
    go_wp2_with fail
    refine (numbers_any A n c w).mono ?_
    rintro e1 w1 ⟨rfl, hb1, hz1, hg⟩
    go_wp2_with fail
    refine (take_cl w.heap.size A n c bs w1 HB.out (HR.out.below hb1) hnc hmax hg).mono ?_
    rintro e2 w2 ⟨rfl, hb2, hz2, hg2⟩
    have hg2 : Along w2 w.heap.size A n c size := by have := hg2 (by rw [HH.out]); rw [HH.out] at this; exact this
    have hb12 : Below w.heap.size w w2 := hb1.trans hb2
    have HN := Lib.hid (next_any w.heap.size A n c size bs w2 HB.out (HR.out.below hb12) hs3 hnc hmax hg2)
    clear hg hg2
    rw [HT.out]
    unfold nextOf
    go_wp2_with fail
    refine HN.out.mono ?_
    rintro e3 w3 ⟨rfl, hb3, _, _⟩
    have hb13 : Below w.heap.size w w3 := hb12.trans hb3
    clear hb1 hb2 hb3
    by_cases he2 : e = 0
    · subst he2
      rw [show told bs size = .tuple #[.int .u64 (x : Int), .int .i64 ((size + k : Nat) : Int), .int .i64 0] by unfold told; rw [HX.out]; rfl]
      clear hx
      rcases hwire with rfl | rfl
      · have HV := Lib.hid (tskip_num HH.out HX.out)
        go_wp2
        go_ret2
        exact ⟨by rw [HV.out]; exact ret_tuple (by simp), hb13⟩
      · by_cases hbig : 16384 < x
        · have HV := Lib.hid (tskip_big HH.out HX.out hbig)
          go_wp2
          go_ret2
          exact ⟨by rw [HV.out]; rfl, hb13⟩
        · by_cases hsh : n - size - k < x
          · have HV := Lib.hid (tskip_short HH.out HX.out hbig (by rw [HL.out]; exact hsh))
            go_wp2
            go_ret2
            exact ⟨by rw [HV.out]; rfl, hb13⟩
          · have HV := Lib.hid (tskip_bytes HH.out HX.out hbig (by rw [HL.out]; exact hsh))
            go_wp2
            go_ret2
            exact ⟨by rw [HV.out]; exact ret_tuple (by simp), hb13⟩
    · have q1 : ((e : Int) != 0) = true := by rw [bne_iff_ne]; omega
      rw [show told bs size = .tuple #[.int .u64 0, .int .i64 0, .int .i64 (e : Int)] by unfold told; rw [HX.out]; exact if_neg he2]
      have HV := Lib.hid (tskip_bad2 HH.out HX.out he2)
      clear hx
      go_wp2
      go_ret2
      exact ⟨by rw [HV.out]; rfl, hb13⟩
  · have q1 : ((err : Int) != 0) = true := by rw [bne_iff_ne]; omega
    have HV := Lib.hid (tskip_bad HH.out he)
    clear ht hlen h hb
    go_enter Try.func73, Try.ntmps73
    go_wp2_with fail
    refine (numbers_any A n c w).mono ?_
    rintro e1 w1 ⟨rfl, hb1, hz1, hg⟩
    go_wp2_with fail
    refine (take_cl w.heap.size A n c bs w1 HB.out (HR.out.below hb1) hnc hmax hg).mono ?_
    rintro e2 w2 ⟨rfl, hb2, _⟩
    have hb12 : Below w.heap.size w w2 := hb1.trans hb2
    rw [HT.out]
    clear hg hb1 hb2
    go_wp2
    go_ret2
    exact ⟨by rw [HV.out]; rfl, hb12⟩
end Go.Proofs.Ytkagonijkalicaa.Tg
