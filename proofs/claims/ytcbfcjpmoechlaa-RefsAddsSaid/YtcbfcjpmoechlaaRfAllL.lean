/-
  The walk of the law RefsAll.
-/
import Derived.Test.YtcbfcjpmoechlaaRfCnts
import Derived.Test.YtcbfcjpmoechlaaRfWith
import Derived.Test.YtcbfcjpmoechlaaRfShown
import Derived.Test.YtcbfcjpmoechlaaRfFew
import Derived.Test.YtcbfcjpmoechlaaRfSameAll
set_option linter.unusedVariables false
set_option linter.unusedSimpArgs false
namespace Go.Proofs.Ytcbfcjpmoechlaa
open Go.RowKit
open Rf (Snp)

theorem short_rd {w : World} {B n : Nat} {A : Option Addr} {l : List Int} (h : Rd w B 1 A n (ivs l)) : Rd w B 1 A (min n 12) (ivs (l.take 12)) ∧ (l.take 12).length = min n 12 := by
  have hl : l.length = n := by have := h.1; rw [ivs_len] at this; omega
  have h4 := h.take (show min n 12 ≤ n by omega)
  rw [Nat.mul_one] at h4
  have e : (ivs l).take (min n 12) = ivs (l.take 12) := by
    unfold ivs
    rw [← List.map_take]
    congr 1
    rw [List.take_eq_take_iff]; omega
  rw [e] at h4
  exact ⟨h4, by rw [List.length_take]; omega⟩

set_option maxHeartbeats 2000000 in
set_option maxRecDepth 100000 in
theorem rfall_any (A A' : Option Addr) (n n' c c' : Nat) (l : List Snp) (S : List (Option Addr × Nat)) (ch : List Int) (id : Int) (w : World) (h : RdS w w.heap.size A n l S) (hnc : n ≤ c) (hmax : c ≤ 9223372036854775807) (hw : ∀ a ∈ l, Snok a) (hid : I64 id)
    (h' : Rd w w.heap.size 1 A' n' (ivs ch)) (hnc' : n' ≤ c') (hmax' : c' ≤ 9223372036854775807) (hch : ∀ x ∈ ch, I64 x) :
    Calls Try.prog 3 #[.slice A n c, .int .i64 id, .slice A' n' c'] w fun e w' => e = .returned (.bool true) ∧ Below w.heap.size w w' := by
  obtain ⟨k, hk⟩ : ∃ k, min n' 12 = k := ⟨_, rfl⟩
  obtain ⟨F, hF⟩ : ∃ F, fewS l = F := ⟨_, rfl⟩
  obtain ⟨C, hC⟩ : ∃ C, ch.take 12 = C := ⟨_, rfl⟩
  have hkc : k ≤ c' ∧ k ≤ 12 := by omega
  obtain ⟨hrc, hcl⟩ := short_rd h'
  rw [hC, hk] at hrc hcl
  have HMF := Lib.hid (hF ▸ fewS_many l)
  have HOF := Lib.hid (hF ▸ fewS_ok hw)
  have hfl : F.length ≤ 20 := by rw [← hF, fewS_len]; omega
  have HOC := Lib.hid (show ∀ x ∈ C, I64 x from fun x hx => hch x (List.mem_of_mem_take (by rw [hC]; exact hx)))
  have HTF := Lib.hid (fun a ha => (HOF.out a ha).2.2.2)
  have HTW := Lib.hid (show ∀ a ∈ Rf.without F id, ∀ b ∈ a.tag, b < 256 from fun a ha => HTF.out a (List.mem_filter.1 ha).1)
  have HR := Lib.hid h
  have HC := Lib.hid hrc
  have HCL := Lib.hid hcl
  have HI := Lib.hid hid
  have HFF := Lib.hid hF
  have HS := Lib.hid (short6_any A' n' c' · hnc' hmax')
  rw [hk] at HS
  clear h h' hw hid hch hrc hcl hF hC hk
  go_enter Try.func3, Try.ntmps3
  go_wp2_with fail
  refine (rfshown_any w).mono ?_
  rintro e w1 ⟨rfl, hb1⟩
  replace HR := Lib.hid ((HR.out.below hb1).more hb1.size)
  replace HC := Lib.hid ((HC.out.below hb1).more hb1.size)
  go_wp2_with fail
  refine (fews_any A n c l S w1 HR.out hnc hmax).mono ?_
  rintro e w2 ⟨v2, rfl, ⟨A1, n1, c1, S1, rfl, hn1, hc1, hr1⟩, hb2⟩
  have hbw2 := hb1.trans (hb2.mono hb1.size)
  rw [HFF.out] at hr1
  have hn20 : n1 ≤ 20 := by have := hr1.1; omega
  replace HR := Lib.hid hr1
  replace HC := Lib.hid ((HC.out.below hb2).more hb2.size)
  clear hr1 hb1 hb2 HFF
  go_wp2_with fail
  refine (HS.out w2).mono ?_
  rintro _ _ ⟨rfl, rfl⟩
  -- counts
  go_wp2_with fail
  refine (counts_r A1 n1 c1 F S1 w2 HR.out hn1 hc1 (by omega) (Nat.le_trans HMF.out (by omega)) HOF.out).mono ?_
  rintro e w3 ⟨v3, rfl, ⟨A3, n3, c3, rfl, hn3, hc3, hl3, hr3⟩, hb3⟩
  have hbw3 := hbw2.trans (hb3.mono hbw2.size)
  replace HR := Lib.hid ((HR.out.below hb3).more hb3.size)
  replace HC := Lib.hid ((HC.out.below hb3).more hb3.size)
  have H3 := Lib.hid hr3
  clear hr3 hb3 hl3 hbw2
  go_wp2_with fail
  refine (rcounts_any A1 n1 c1 F S1 w3 HR.out hn1 hc1 (Nat.le_trans HMF.out (by omega))).mono ?_
  rintro e w4 ⟨v4, rfl, ⟨A4, n4, c4, rfl, hn4, hc4, hl4, hr4⟩, hb4⟩
  have hbw4 := hbw3.trans (hb4.mono hbw3.size)
  replace HR := Lib.hid ((HR.out.below hb4).more hb4.size)
  replace HC := Lib.hid ((HC.out.below hb4).more hb4.size)
  replace H3 := Lib.hid ((H3.out.below hb4).more hb4.size)
  have H4 := Lib.hid hr4
  clear hr4 hb4 hl4 hbw3
  go_wp2_with fail
  refine (ints_any A3 A4 n3 n4 c3 c4 (Rf.counts F) (Rf.counts F) w4 H3.out H4.out hn3 hc3 hn4 hc4).mono ?_
  rintro e w5 ⟨rfl, hb5⟩
  rw [show decide (Rf.counts F = Rf.counts F) = true from decide_eq_true rfl]
  have hbw5 := hbw4.trans (hb5.mono hbw4.size)
  replace HR := Lib.hid ((HR.out.below hb5).more hb5.size)
  replace HC := Lib.hid ((HC.out.below hb5).more hb5.size)
  clear H3 H4 hb5 hbw4
  -- freed
  go_wp2_with fail
  refine (freed_r A1 n1 c1 F S1 id w5 HR.out hn1 hc1 (by omega) (Nat.le_trans HMF.out (by omega)) HOF.out HI.out).mono ?_
  rintro e w6 ⟨v6, rfl, ⟨A6, n6, c6, rfl, hn6, hc6, hl6, hr6⟩, hb6⟩
  have hbw6 := hbw5.trans (hb6.mono hbw5.size)
  replace HR := Lib.hid ((HR.out.below hb6).more hb6.size)
  replace HC := Lib.hid ((HC.out.below hb6).more hb6.size)
  have H6 := Lib.hid hr6
  clear hr6 hb6 hl6 hbw5
  go_wp2_with fail
  refine (rfreed_any A1 n1 c1 F S1 id w6 HR.out hn1 hc1 (by omega) (Nat.le_trans HMF.out (by omega))).mono ?_
  rintro e w7 ⟨v7, rfl, ⟨A7, n7, c7, rfl, hn7, hc7, hl7, hr7⟩, hb7⟩
  have hbw7 := hbw6.trans (hb7.mono hbw6.size)
  replace HR := Lib.hid ((HR.out.below hb7).more hb7.size)
  replace HC := Lib.hid ((HC.out.below hb7).more hb7.size)
  replace H6 := Lib.hid ((H6.out.below hb7).more hb7.size)
  have H7 := Lib.hid hr7
  clear hr7 hb7 hl7 hbw6
  go_wp2_with fail
  refine (ints_any A6 A7 n6 n7 c6 c7 (Rf.freed F id) (Rf.freed F id) w7 H6.out H7.out hn6 hc6 hn7 hc7).mono ?_
  rintro e w8 ⟨rfl, hb8⟩
  rw [show decide (Rf.freed F id = Rf.freed F id) = true from decide_eq_true rfl]
  have hbw8 := hbw7.trans (hb8.mono hbw7.size)
  replace HR := Lib.hid ((HR.out.below hb8).more hb8.size)
  replace HC := Lib.hid ((HC.out.below hb8).more hb8.size)
  clear H6 H7 hb8 hbw7
  -- without
  go_wp2_with fail
  refine (without_r A1 n1 c1 F S1 id w8 HR.out hn1 hc1 (by omega) (Nat.le_trans HMF.out (by omega)) HOF.out HI.out).mono ?_
  rintro e w9 ⟨v9, rfl, ⟨A9, n9, c9, S9, rfl, hn9, hc9, hr9⟩, hb9⟩
  have hbw9 := hbw8.trans (hb9.mono hbw8.size)
  replace HR := Lib.hid ((HR.out.below hb9).more hb9.size)
  replace HC := Lib.hid ((HC.out.below hb9).more hb9.size)
  have H9 := Lib.hid hr9
  clear hr9 hb9 hbw8
  go_wp2_with fail
  refine (rwithout_any A1 n1 c1 F S1 id w9 HR.out hn1 hc1 (by omega)).mono ?_
  rintro e w10 ⟨v10, rfl, ⟨A10, n10, c10, S10, rfl, hn10, hc10, hr10⟩, hb10⟩
  have hbw10 := hbw9.trans (hb10.mono hbw9.size)
  replace HR := Lib.hid ((HR.out.below hb10).more hb10.size)
  replace HC := Lib.hid ((HC.out.below hb10).more hb10.size)
  replace H9 := Lib.hid ((H9.out.below hb10).more hb10.size)
  have H10 := Lib.hid hr10
  clear hr10 hb10 hbw9
  go_wp2_with fail
  refine (sameall_any A9 A10 n9 n10 c9 c10 (Rf.without F id) (Rf.without F id) S9 S10 w10 H9.out H10.out hn9 hc9 hn10 hc10 HTW.out HTW.out).mono ?_
  rintro e w11 ⟨rfl, hb11⟩
  rw [show decide (Rf.without F id = Rf.without F id) = true from decide_eq_true rfl]
  have hbw11 := hbw10.trans (hb11.mono hbw10.size)
  replace HR := Lib.hid ((HR.out.below hb11).more hb11.size)
  replace HC := Lib.hid ((HC.out.below hb11).more hb11.size)
  clear H9 H10 hb11 hbw10
  -- distinct, with
  go_wp2_with fail
  refine (distinct_r A1 n1 c1 F S1 w11 HR.out hn1 hc1 (by omega) (Nat.le_trans HMF.out (by omega)) HOF.out).mono ?_
  rintro e w12 ⟨rfl, hb12⟩
  have hbw12 := hbw11.trans (hb12.mono hbw11.size)
  replace HR := Lib.hid ((HR.out.below hb12).more hb12.size)
  replace HC := Lib.hid ((HC.out.below hb12).more hb12.size)
  clear hb12 hbw11
  go_wp2_with fail
  refine (rdistinct_any A1 n1 c1 F S1 w12 HR.out hn1 hc1 (Nat.le_trans HMF.out (by omega))).mono ?_
  rintro _ _ ⟨rfl, rfl⟩
  go_wp2_with fail
  refine (with_r A1 A' n1 k c1 c' F S1 C w12 HR.out hn1 hc1 (by omega) HC.out hkc.1 hmax' (by have := HMF.out; have := HCL.out; omega) HOF.out HOC.out).mono ?_
  rintro e w13 ⟨rfl, hb13⟩
  have hbw13 := hbw12.trans (hb13.mono hbw12.size)
  replace HR := Lib.hid ((HR.out.below hb13).more hb13.size)
  replace HC := Lib.hid ((HC.out.below hb13).more hb13.size)
  clear hb13 hbw12
  go_wp2_with fail
  refine (rwith_any A1 A' n1 k c1 c' F S1 C w13 HR.out hn1 hc1 (by omega) HC.out hkc.1 hmax' (by have := HMF.out; have := HCL.out; omega)).mono ?_
  rintro e w14 ⟨rfl, hb14⟩
  have hbw14 := hbw13.trans (hb14.mono hbw13.size)
  clear hb14 hbw13
  go_wp2
  go_ret
  exact ⟨by simp, hbw14⟩
end Go.Proofs.Ytcbfcjpmoechlaa
