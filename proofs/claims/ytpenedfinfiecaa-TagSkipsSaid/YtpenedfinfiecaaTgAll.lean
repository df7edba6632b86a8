/-
  The walks of layer 2's examples, and of the law that all its calls answer as the document says.
-/
import Derived.Test.YtpenedfinfiecaaTgProg
import Derived.Deep.DeepCutAuto
namespace Go.Proofs.Ytpenedfinfiecaa.Tg
open Go.RowKit

theorem lit_bytes (l : List Nat) (h : l.all (· < 256) = true) : ∀ c ∈ l, c < 256 := by
  intro c hc
  have := List.all_eq_true.1 h c hc
  simpa using this

set_option maxRecDepth 100000 in
theorem shown_any (w : World) : Calls Try.prog 7 #[] w fun e w' => e = .returned (.bool true) ∧ Below w.heap.size w w' := by
  go_enter Try.func7, Try.ntmps7
  go_wp2_with fail
  refine (put_tag 1 2 w (by omega) (by omega) (by omega) (by omega)).mono ?_
  rintro e w1 ⟨v, rfl, hown, hb1⟩
  have e1 : tput 1 2 = ([10], 0) := by decide
  rw [e1] at hown ⊢
  clear e1
  obtain ⟨A, c, rfl, hc, hc2⟩ := slice_of_own (n := 1) hown
  have HR := Lib.hid (Rd.of_own (n := 1) hown)
  clear hown
  have hsz1 := hb1.size
  have r2 := rd_new w1 [.int .u8 10, .int .u8 2, .int .u8 7, .int .u8 7, .int .u8 9] 5
  have HR2 := Lib.hid r2
  clear r2
  go_wp2_with fail
  refine (skip_tag _ 5 _ [10, 2, 7, 7, 9] _ (lit_bytes _ rfl) (by have := HR2.out; simpa [bvs, bv] using this) (by omega) (by omega)).mono ?_
  rintro e w2 ⟨rfl, hb2⟩
  have e2 : tskip [10, 2, 7, 7, 9] = (4, 0) := by decide
  rw [e2]
  clear e2
  have hb2' : Below w1.heap.size w1 w2 := ((Below.refl _ _).alloc (Nat.le_refl _) _).trans (hb2.mono (by simp))
  have hsz2 := hb2'.size
  have s1 := run_str (P := Try.prog) w2 22 9 5 Try.underlying22 Try.underlying5 Try.underlying9 (bs := [10]) (HR.out.below hb2') c
  have s2 := run_str (P := Try.prog) (w2.alloc (.cells #[.int .u8 10] 5)) 22 9 5 Try.underlying22 Try.underlying5 Try.underlying9 (bs := [10]) (n := 1) (rd_new w2 [.int .u8 10] 5) 1
  go_wp2
  go_ret
  exact ⟨rfl, (hb1.trans (hb2'.mono hb1.size)).alloc (by omega) _⟩

/-- The law's own cut of what came in. -/
def shortN (n : Nat) : Nat := if 20000 < n then 20000 else n
theorem shortN_le (n : Nat) : shortN n ≤ n ∧ shortN n ≤ 20000 := by unfold shortN; split <;> omega
theorem short_any (A : Option Addr) (n c : Nat) (w : World) (hnc : n ≤ c) (hmax : c ≤ 9223372036854775807) :
    Calls Try.prog 8 #[.slice A n c] w fun e w' => e = .returned (.slice A (shortN n) c) ∧ w = w' := by
  by_cases h : 20000 < n
  · have e1 : (20000 : Int) ≤ (c : Int) := by omega
    go_enter Try.func8, Try.ntmps8
    go_wp2
    go_ret
    exact ⟨by unfold shortN; rw [if_pos h]; rfl, rfl⟩
  · go_enter Try.func8, Try.ntmps8
    go_wp2
    go_ret
    exact ⟨by unfold shortN; rw [if_neg h]; rfl, rfl⟩

set_option maxHeartbeats 4000000 in
set_option maxRecDepth 100000 in
theorem all_any (num wire : Int) (A : Option Addr) (n c : Nat) (bs : List Nat) (w : World) (n0 : -9223372036854775808 ≤ num) (n1 : num ≤ 9223372036854775807) (k0 : -9223372036854775808 ≤ wire) (k1 : wire ≤ 9223372036854775807)
    (hb : ∀ c ∈ bs, c < 256) (h : Rd w w.heap.size 1 A n (bvs bs)) (hnc : n ≤ c) (hmax : c ≤ 9223372036854775807) :
    Calls Try.prog 3 #[.int .i64 num, .int .i64 wire, .slice A n c] w fun e w' => e = .returned (.bool true) ∧ Below w.heap.size w w' := by
  have hL := shortN_le n
  generalize hLn : shortN n = L at *
  have HLN := Lib.hid hLn
  clear hLn
  have hx := h.bytes_to hL.1
  have hbx : ∀ c ∈ bs.take L, c < 256 := fun c hc => hb c (List.mem_of_mem_take hc)
  clear h hb
  generalize bs.take L = xs at *
  have HX := Lib.hid hx
  have HB := Lib.hid hbx
  clear hx hbx
  obtain ⟨pb, pe, hp⟩ : ∃ pb pe, tput num wire = (pb, pe) := ⟨_, _, rfl⟩
  obtain ⟨tn, tw, ts, te, ht⟩ : ∃ a b c d, ttake xs = ⟨a, b, c, d⟩ := ⟨_, _, _, _, rfl⟩
  obtain ⟨sn, se, hs⟩ : ∃ a b, tskip xs = (a, b) := ⟨_, _, rfl⟩
  have HP := Lib.hid hp
  have HT := Lib.hid (show tagged (ttake xs) = .tuple #[.int .i64 (tn : Int), .int .i64 (tw : Int), .int .i64 (ts : Int), .int .i64 (te : Int)] by rw [ht]; rfl)
  have HS := Lib.hid hs
  have hpb := tput_byte num wire
  rw [hp] at hpb
  have HPB := Lib.hid hpb
  clear hp ht hs hpb
  go_enter Try.func3, Try.ntmps3
  go_wp2_with fail
  refine (shown_any _).mono ?_
  rintro e w1 ⟨rfl, hb1⟩
  go_wp2_with fail
  refine (short_any A n c w1 hnc hmax).mono ?_
  rintro e w1 ⟨rfl, rfl⟩
  rw [HLN.out]
  have hs1 := hb1.size
  go_wp2_with fail
  refine (put_tag num wire _ n0 n1 k0 k1).mono ?_
  rintro e w2 ⟨v, rfl, hown, hb2⟩
  rw [HP.out] at hown ⊢
  obtain ⟨A2, c2, rfl, hc2, hc22⟩ := slice_of_own hown
  have HO2 := Lib.hid (Rd.of_own hown)
  have hbw2 := hb1.trans (hb2.mono hs1)
  have hs2 := hb2.size
  clear hown
  go_wp2_with fail
  refine (rput_tag num wire _ n0 n1 k0 k1).mono ?_
  rintro e w3 ⟨v, rfl, hown, hb3⟩
  rw [HP.out] at hown ⊢
  obtain ⟨A3, c3, rfl, hc3, hc32⟩ := slice_of_own hown
  have HO3 := Lib.hid (Rd.of_own hown)
  have hbw3 := hbw2.trans (hb3.mono hbw2.size)
  have HO23 := Lib.hid (HO2.out.below hb3)
  have hs3 := hb3.size
  clear hown
  go_wp2_with fail
  refine (take_tag A L c xs _ HB.out ((HX.out.below hbw3).more hbw3.size) (by omega) hmax).mono ?_
  rintro e w4 ⟨rfl, hb4⟩
  rw [HT.out]
  have hbw4 := hbw3.trans (hb4.mono hbw3.size)
  go_wp2_with fail
  refine (rtake_tag A L c xs _ HB.out ((HX.out.below hbw4).more hbw4.size) (by omega) hmax).mono ?_
  rintro e w5 ⟨rfl, hb5⟩
  rw [HT.out]
  have hbw5 := hbw4.trans (hb5.mono hbw4.size)
  go_wp2_with fail
  refine (skip_tag A L c xs _ HB.out ((HX.out.below hbw5).more hbw5.size) (by omega) hmax).mono ?_
  rintro e w6 ⟨rfl, hb6⟩
  rw [HS.out]
  have hbw6 := hbw5.trans (hb6.mono hbw5.size)
  go_wp2_with fail
  refine (rskip_tag A L c xs _ HB.out ((HX.out.below hbw6).more hbw6.size) (by omega) hmax).mono ?_
  rintro e w7 ⟨rfl, hb7⟩
  rw [HS.out]
  have hbw7 := hbw6.trans (hb7.mono hbw6.size)
  have hb37 : Below w3.heap.size w3 w7 := (hb4.trans (hb5.mono hb4.size)).trans (((hb6.mono (Nat.le_trans hb4.size hb5.size))).trans (hb7.mono (Nat.le_trans (Nat.le_trans hb4.size hb5.size) hb6.size)))
  have s1 := run_str (P := Try.prog) w7 22 9 5 Try.underlying22 Try.underlying5 Try.underlying9 (HO23.out.below (hb37.mono hs3)) c2
  have s2 := run_str (P := Try.prog) w7 22 9 5 Try.underlying22 Try.underlying5 Try.underlying9 (HO3.out.below hb37) c3
  go_wp2
  go_ret
  exact ⟨by simp, hbw7⟩
end Go.Proofs.Ytpenedfinfiecaa.Tg
