/-
  The walk of the landed tlv.May: whether a row of fields may be.
-/
import Derived.Test.YtmcbifdfpaooaaaTlHead
import Derived.Test.YtmcbifdfpaooaaaTlRise
namespace Go.Proofs.Ytmcbifdfpaooaaa
open Go.RowKit
open Tl (Fel mayGo may flat fit falls)
open Tg (tput okTag okTag_iff)

theorem falls_zero {q : Fel} (h : fit q = true) : falls noneAhead q = false := by
  have h1 := (okTag_iff.1 (Tl.fit_iff.1 h).1).1
  unfold falls noneAhead
  rw [decide_eq_false (show ¬ q.num < 0 by omega), decide_eq_false (show ¬ q.num = 0 by omega)]
  rfl

set_option maxHeartbeats 4000000 in
set_option maxRecDepth 100000 in
theorem may_row (A : Option Addr) (n c : Nat) (l : List Fel) (S : List (Option Addr × Nat)) (w : World) (h : RdF w w.heap.size A n l S) (hnc : n ≤ c) (hmax : c ≤ 9223372036854775807) (hn : n ≤ 20000) (hw : ∀ f ∈ l, Fok f) :
    Calls Try.prog 20 #[.slice A n c] w fun e w' => e = .returned (.int .i64 (may l : Nat)) ∧ Below w.heap.size w w' := by
  have HR := Lib.hid h
  have HN := Lib.hid h.1
  have HW := Lib.hid hw
  clear h hw
  obtain ⟨g0, hg0⟩ : ∃ g0, g0 = w.heap.size := ⟨_, rfl⟩
  go_enter Try.func20, Try.ntmps20
  go_wp2_with fail
  refine (rising_any w).mono ?_
  rintro e w0 ⟨rfl, hw0⟩
  have hk0 : Blk w0 g0 39 (fblk noneAhead (none, 0)) := by rw [hw0, hg0]; exact Blk.new _ _ _
  have hb0 : Below w.heap.size w w0 := by rw [hw0]; exact (Below.refl _ _).alloc (Nat.le_refl _) _
  rw [← hg0]
  have HG0 := Lib.hid hg0
  have HK0 := Lib.hid hk0
  clear hw0 hk0 hg0
  unfold riseOf
  go_wp2
  go_loopw [4, 12] (fun x i wr => ∃ (j m : Nat) (p : Fel) (sp : Option Addr × Nat), j ≤ n ∧ i = .int .i64 (j : Int) ∧ x = .int .i64 (m : Int) ∧ (flat (l.take j)).length = m ∧ m ≤ 17012 * j ∧ mayGo none l = mayGo (ahead l j) (l.drop j) ∧
      (∀ q : Fel, fit q = true → falls p q = (ahead l j).any (falls · q)) ∧ Blk wr g0 39 (fblk p sp) ∧ Below w.heap.size w wr) (fun _ i _ => n - (intOf i).toNat)
  case atStart => exact ⟨0, 0, noneAhead, (none, 0), Nat.zero_le _, rfl, rfl, by simp [flat], by omega, rfl, fun q hq => falls_zero hq, HK0.out, hb0⟩
  case round =>
    obtain ⟨j, m, p, sp, hj, rfl, rfl, hml, hm17, hm, hfa, hk, hb⟩ := hrel
    have HM := Lib.hid hm
    have HML := Lib.hid hml
    have HFA := Lib.hid hfa
    have HK := Lib.hid hk
    have hltg := hk.lt
    clear hm hml hfa hk
    have hsz := hb.size
    by_cases hlt : j < n
    · obtain ⟨ad, f, s, rfl, hab, hf, hs, r0, r1, r2, r3, hrd, hs1, hs2⟩ := (HR.out.below hb).spell hlt
      have hok := HW.out f (List.mem_of_getElem? hf)
      have hb17 := hok.2.2.2.2.2
      have hst := mayGo_step hf (ahead l j)
      have HST := Lib.hid hst
      have HF := Lib.hid hf
      have HOK := Lib.hid hok
      clear hst hf hs hok
      obtain ⟨w3, hw3⟩ : ∃ w3 : World, w3 = wr.alloc (.cells #[.int .i64 f.num, .int .i64 f.wire, .int .u64 (f.n : Int), .slice s.1 f.b.length s.2] 39) := ⟨_, rfl⟩
      have hk3 : Blk w3 wr.heap.size 39 (fblk f s) := by rw [hw3]; exact Blk.new _ _ _
      have hb3 : Below wr.heap.size wr w3 := by rw [hw3]; exact (Below.refl _ _).alloc (Nat.le_refl _) _
      have hs3 : wr.heap.size < w3.heap.size := hk3.lt
      have HK3 := Lib.hid hk3
      have HW3 := Lib.hid hw3
      clear hw3 hk3
      have hcall := head_any f s w3 HOK.out hs1 hs2
      obtain ⟨G, hG⟩ : ∃ G, fit f = G := ⟨_, rfl⟩
      rw [hG] at hcall
      obtain ⟨hl, hhl⟩ : ∃ hl, (headOf f).length = hl := ⟨_, rfl⟩
      have hl12 := headOf_small f
      rw [hhl] at hl12
      have HHL := Lib.hid hhl
      have HG := Lib.hid hG
      have HC := Lib.hid hcall
      clear hG hhl hcall
      go_wp2_with fail
      rw [← HW3.out]
      refine HC.out.mono ?_
      rintro e w5 ⟨v5, rfl, hown5, hb5⟩
      rw [HHL.out] at hown5
      obtain ⟨A5, c5, rfl, _, _⟩ := slice_of_own hown5
      have hk5 := HK3.out.below hb5 hs3
      have hlt5 := hk5.lt
      have z0 := hk5.cell 0
      have z1 := hk5.cell 1
      have z2 := hk5.cell 2
      have z3 := hk5.cell 3
      simp [fblk] at z0 z1 z2 z3
      have hb35 := hb3.trans (hb5.mono hb3.size)
      have hbw5 := hb.trans (hb35.mono hsz)
      have HK5 := Lib.hid (HK.out.below hb35 hltg)
      clear hown5 hb5 HK3 HW3 hk5 hb3 HC HK
      cases G with
      | false =>
        rw [if_neg (by decide)]
        go_wp2
        go_ret
        refine ⟨?_, hbw5⟩
        have e : mayGo none l = 1 := by rw [HM.out, HST.out, if_pos HG.out]
        unfold may
        rw [e]; rfl
      | true =>
        rw [if_pos rfl]
        obtain ⟨D, hD⟩ : ∃ D, falls p f = D := ⟨_, rfl⟩
        have hcall := rise_any g0 p f sp s w5 HK5.out
        rw [hD] at hcall
        have HC := Lib.hid hcall
        have HD := Lib.hid (show (ahead l j).any (falls · f) = D by rw [← HFA.out f HG.out]; exact hD)
        clear hcall hD
        go_wp2_with fail
        refine HC.out.mono ?_
        rintro e w6 ⟨rfl, hg6, hk6⟩
        have HK6 := Lib.hid hk6
        have hbw6 : Below w.heap.size w w6 := hbw5.grown hg6 hbw5.size (fun k hk => by injection hk with hk; have := HG0.out; omega)
        have z3' := (hg6.cell_far ⟨wr.heap.size, 3, none⟩ hlt5 (by simp; omega)).trans z3
        clear z0 z1 z2 z3 hg6 hk6 HC
        cases D with
        | true =>
          go_wp2
          go_ret
          refine ⟨?_, hbw6⟩
          have e : mayGo none l = 5 := by rw [HM.out, HST.out, if_neg (by rw [HG.out]; decide), if_pos HD.out]
          unfold may
          rw [e]; rfl
        | false =>
          by_cases hbig : 16384 < f.b.length
          · go_wp2
            go_ret
            refine ⟨?_, hbw6⟩
            have e : mayGo none l = 4 := by rw [HM.out, HST.out, if_neg (by rw [HG.out]; decide), if_neg (by rw [HD.out]; decide), if_pos hbig]
            unfold may
            rw [e]; rfl
          · go_wp2
            go_roundw
            case rel =>
              refine ⟨j + 1, m + (hl + f.b.length), f, s, by omega, by go_num, by go_num, ?_, by omega, ?_, ?_, HK6.out, hbw6⟩
              · rw [flat_snoc HF.out, List.length_append, HML.out, one_head HG.out, List.length_append, HHL.out]
              · rw [HM.out, HST.out, if_neg (by rw [HG.out]; decide), if_neg (by rw [HD.out]; decide), if_neg hbig]
                have e : ahead l (j + 1) = some f := HF.out
                rw [e]
              · intro q _
                have e : ahead l (j + 1) = some f := HF.out
                rw [e]; rfl
            case measure => simp [intOf]; omega
    · obtain rfl : j = n := by omega
      have hm0 : mayGo none l = 0 := by
        rw [HM.out, List.drop_eq_nil_of_le (by have := HN.out; omega)]
        unfold mayGo
        rfl
      have hfl : (flat l).length = m := by
        have := HML.out
        rwa [List.take_of_length_le (by have := HN.out; omega)] at this
      have HFL := Lib.hid hfl
      have HM0 := Lib.hid hm0
      clear hm0 hfl
      by_cases hbig : 16384 < m
      · go_wp2
        go_ret
        refine ⟨?_, hb⟩
        unfold may
        rw [HM0.out, HFL.out]
        simp only [ne_eq, not_true, if_false]
        rw [if_pos hbig]
        rfl
      · go_wp2
        go_ret
        refine ⟨?_, hb⟩
        unfold may
        rw [HM0.out, HFL.out]
        simp only [ne_eq, not_true, if_false]
        rw [if_neg hbig]
        rfl
end Go.Proofs.Ytmcbifdfpaooaaa
