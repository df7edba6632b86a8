/-
  The walk of the landed command.Put.
-/
import Derived.Test.YtkagonijkalicaaCmFieldsC
import Derived.Test.YtkagonijkalicaaCmMayC
import Derived.Test.YtkagonijkalicaaFoProg
import Derived.Test.YtkagonijkalicaaMgI
set_option linter.unusedVariables false
set_option linter.unusedSimpArgs false
namespace Go.Proofs.Ytkagonijkalicaa
open Go.RowKit
open Cm (Cmd inR inR_iff need row fieldsC putC foreignC mayC mayNum mayChunks mayText forNum forChunks forText)
open Tl (Fel putRow)
open Fo (top)

theorem foreign_text {c : Cmd} {v : Int} (h : foreignC c v = true) : c.text = [] ∨ 3 ≤ v := by
  unfold foreignC forText at h
  simp only [Bool.and_eq_true, Bool.or_eq_true, decide_eq_true_eq, List.length_eq_zero_iff] at h
  rcases h.2.2.2.2 with h | h
  · exact .inl h
  · exact .inr h.1
theorem may_text {c : Cmd} {v : Int} (h : mayC c v = 0) : c.text = [] ∨ 3 ≤ v := by
  unfold mayC at h
  split at h
  · cases h
  split at h
  · cases h
  rename_i h2
  split at h
  · rename_i h3
    simp only [Bool.and_eq_true] at h3
    obtain ⟨_, _, ht⟩ := h3
    unfold mayText at ht
    simp only [Bool.or_eq_true, Bool.and_eq_true, decide_eq_true_eq, List.length_eq_zero_iff] at ht
    rcases ht with ht | ht
    · exact .inl ht
    · right
      rw [ht.1] at h2
      have : need 11 = 3 := by decide
      omega
  · cases h

set_option maxHeartbeats 4000000 in
set_option maxRecDepth 100000 in
theorem put_c (c : Cmd) (s : Option Addr × Nat) (v : Int) (A : Option Addr) (n cc : Nat) (rest : List Fel) (S : List (Option Addr × Nat)) (w : World) (h : RdC w w.heap.size c s) (hc : Cok c) (hr : RdF w w.heap.size A n rest S) (hnc : n ≤ cc) (hmax : cc ≤ 9223372036854775807) (hn : n ≤ 19000) (hw : ∀ f ∈ rest, Fok f) (hv : I64 v) :
    Calls Try.prog 26 #[cagg c s, .slice A n cc, .int .i64 v] w (NewPair w (putC c rest v).1 ((putC c rest v).2 : Nat)) := by
  obtain ⟨v0, v1⟩ := hv
  obtain ⟨i0, hi, hz0, hz1, hz2⟩ := info_parts field_info
  obtain ⟨w0, hw0, hk0, hb0, hs0⟩ := box_cmd w c s 24
  obtain ⟨k0, k1, k2, k3, k4, k5, k6, k7⟩ := cblk_cells hk0
  have hrc0 := (h.below hb0).more (Nat.le_of_lt hs0)
  obtain ⟨P, hP⟩ : ∃ P, putC c rest v = P := ⟨_, rfl⟩
  rw [hP]
  have HP := Lib.hid hP
  have HW := Lib.hid hw0
  have HK := Lib.hid hk0
  have HRC := Lib.hid hrc0
  have HRW := Lib.hid h
  have HR := Lib.hid hr
  have HL := Lib.hid hr.1
  have HFO := Lib.hid hw
  have HCO := Lib.hid hc
  have hm18 : mayC c v ≤ 10 := by unfold mayC; split; omega; split; omega; split <;> omega
  have HCF := Lib.hid (foreign_c c s v w0 hrc0 hc)
  clear hw0 hk0 hrc0 hP h hr hw hc
  unfold cagg cblk at *
  go_enter Try.func26, Try.ntmps26
  go_upto_region 1 with fail
  rw [show w.alloc (.cells #[.int .i64 c.kind, .int .i64 c.client, .int .i64 c.seq, .int .i64 c.set, .int .i64 c.id, .int .i64 c.n, .slice s.1 c.chunks.length s.2, .string (strOf c.text)] 24) = w0 from HW.out.symm]
  cases hv : inR v 1 3 with
  | false =>
    obtain rfl : P = ([], 1) := by rw [← HP.out]; unfold putC; rw [if_pos hv]
    go_wp2_with (go_at_call 43; refine (version_any v _).mono ?_; rintro _ _ ⟨rfl, rfl⟩; rw [hv])
    go_ret2
    exact ⟨_, rfl, World.ownsRow_nil _ _ _ _, hb0⟩
  | true =>
    have hp1 : P = if foreignC c v = false ∧ mayC c v ≠ 0 then ([], mayC c v) else if rest.any (fun f => decide (f.num ≤ top 1 v)) then ([], 6) else putRow (fieldsC c v ++ rest) := by rw [← HP.out]; unfold putC; rw [if_neg (by rw [hv]; decide)]
    have HP := Lib.hid hp1
    clear hp1
    go_upto_if 18 with (first
      | (go_at_call 43; refine (version_any v _).mono ?_; rintro _ _ ⟨rfl, rfl⟩; rw [hv])
      | (go_at_call 46; refine HCF.out.mono ?_; rintro _ w1 ⟨rfl, hb1⟩))
    have HK1 := Lib.hid (HK.out.below hb1 hs0)
    have hs1 : w.heap.size < w1.heap.size := Nat.lt_of_lt_of_le hs0 hb1.size
    have hbw1 := hb0.trans (hb1.mono (Nat.le_of_lt hs0))
    have HRC1 := Lib.hid ((HRC.out.below hb1).more hb1.size)
    obtain ⟨F, hF⟩ : ∃ F, foreignC c v = F := ⟨_, rfl⟩
    rw [hF]
    have HF := Lib.hid hF
    clear hF hb1 HCF HW k0 k1 k2 k3 k4 k5 k6 k7
    obtain ⟨k0, k1, k2, k3, k4, k5, k6, k7⟩ := cblk_cells HK1.out
    go_cut [] (fun wx => Puts c ∧ (c.text = [] ∨ 3 ≤ v) ∧ P = (if rest.any (fun f => decide (f.num ≤ top 1 v)) then ([], 6) else putRow (fieldsC c v ++ rest)) ∧ Below w1.heap.size w1 wx)
    case first =>
      cases F with
      | true =>
        go_wp2
        go_meet
        case rel => exact ⟨foreign_puts HF.out, foreign_text HF.out, by rw [HP.out, if_neg (by rw [HF.out]; simp)], Below.refl _ _⟩
      | false =>
        have hcall := may_c c s v w1 HRC1.out HCO.out ⟨v0, v1⟩
        unfold cagg cblk at hcall
        obtain ⟨m, hm⟩ : ∃ m, mayC c v = m := ⟨_, rfl⟩
        rw [hm] at hcall hm18
        have HM := Lib.hid hm
        have HC2 := Lib.hid hcall
        clear hm hcall
        by_cases h0 : m = 0
        · subst h0
          go_wp2_with fail
          refine HC2.out.mono ?_
          rintro _ w2 ⟨rfl, hb2⟩
          go_wp2
          go_meet
          case rel => exact ⟨may_puts HM.out, may_text HM.out, by rw [HP.out, if_neg (by rw [HM.out]; simp)], hb2⟩
        · have q : ((m : Int) != 0) = true := by rw [bne_iff_ne]; omega
          have hp : P = ([], m) := by rw [HP.out, if_pos ⟨HF.out, by rw [HM.out]; exact h0⟩, HM.out]
          have HPP := Lib.hid hp
          clear hp h0
          go_wp2_with fail
          refine HC2.out.mono ?_
          rintro _ w2 ⟨rfl, hb2⟩
          go_wp2
          go_ret2
          rw [HPP.out]
          exact ⟨_, rfl, World.ownsRow_nil _ _ _ _, hbw1.trans (hb2.mono (Nat.le_of_lt hs1))⟩
    case rest =>
      obtain ⟨hputs, htxt, hpp, hb2⟩ := hcut
      obtain ⟨w2, rfl⟩ : ∃ w2, w2 = wc := ⟨_, rfl⟩
      have hbw2 := hbw1.trans (hb2.mono (Nat.le_of_lt hs1))
      have hs2 : w.heap.size < w2.heap.size := Nat.lt_of_lt_of_le hs1 hb2.size
      have HK2 := Lib.hid (HK1.out.below hb2 hs1)
      have HPU := Lib.hid hputs
      have HTX := Lib.hid htxt
      have HPP := Lib.hid hpp
      clear hputs htxt hpp hb2 HP HF k0 k1 k2 k3 k4 k5 k6 k7
      go_wp2_with fail
      refine (top_rec 1 v w2 (by decide) (by decide) v0 v1).mono ?_
      rintro _ w3 ⟨rfl, hb3⟩
      have hbw3 := hbw2.trans (hb3.mono (Nat.le_of_lt hs2))
      have hs3 : w.heap.size < w3.heap.size := Nat.lt_of_lt_of_le hs2 hb3.size
      have HK3 := Lib.hid (HK2.out.below hb3 hs2)
      clear hb3
      go_wp2
      go_loopw [29] (fun i wr => ∃ j : Nat, j ≤ n ∧ i = .int .i64 (j : Int) ∧ rest.any (fun f => decide (f.num ≤ top 1 v)) = (rest.drop j).any (fun f => decide (f.num ≤ top 1 v)) ∧ Below w3.heap.size w3 wr) (fun i _ => n - (intOf i).toNat)
      case atStart => exact ⟨0, Nat.zero_le _, rfl, rfl, Below.refl _ _⟩
      case round =>
        obtain ⟨j, hj, rfl, hm, hb⟩ := hrel
        have HM := Lib.hid hm
        have hbw := hbw3.trans (hb.mono (Nat.le_of_lt hs3))
        have hsz := hbw.size
        clear hm
        by_cases hlt : j < n
        · obtain ⟨ad, f, sf, rfl, hab, hf, hs, g0, g1, g2, g3, hrd, hs1', hs2'⟩ := (HR.out.below hbw).spell hlt
          have hst : (rest.drop j).any (fun f => decide (f.num ≤ top 1 v)) = (decide (f.num ≤ top 1 v) || (rest.drop (j + 1)).any (fun f => decide (f.num ≤ top 1 v))) := by
            have hl := (List.getElem?_eq_some_iff.1 hf).1
            rw [List.drop_eq_getElem_cons hl, List.any_cons]
            have e : rest[j] = f := by rw [List.getElem?_eq_getElem hl] at hf; exact Option.some.inj hf
            rw [e]
          obtain ⟨tp, htp⟩ : ∃ tp, top 1 v = tp := ⟨_, rfl⟩
          by_cases hD : f.num ≤ top 1 v
          · rw [decide_eq_true hD] at hst
            have hp : P = ([], 6) := by rw [HPP.out, HM.out, hst, Bool.true_or, if_pos rfl]
            have HPQ := Lib.hid hp
            clear hp hst hf hs hrd
            go_wp2
            go_ret2
            rw [HPQ.out]
            exact ⟨_, rfl, World.ownsRow_nil _ _ _ _, hbw.alloc hsz _⟩
          · rw [decide_eq_false hD] at hst
            have HST := Lib.hid hst
            clear hst hf hs hrd
            go_wp2
            go_roundw
            case rel => exact ⟨j + 1, by omega, by go_num, by rw [HM.out, HST.out, Bool.false_or], hb.alloc hb.size _⟩
            case measure => simp [intOf]; omega
        · obtain rfl : j = n := by omega
          have hp : P = putRow (fieldsC c v ++ rest) := by rw [HPP.out, HM.out, List.drop_eq_nil_of_le (by have := HL.out; omega), if_neg (by simp)]
          have hk := HK3.out.below hb hs3
          obtain ⟨k0, k1, k2, k3, k4, k5, k6, k7⟩ := cblk_cells hk
          have hcall := fields_c c s v wr ((HRW.out.below hbw).more hsz) HCO.out HPU.out HTX.out
          unfold cagg cblk at hcall
          have HC2 := Lib.hid hcall
          have HPQ := Lib.hid hp
          clear hk hcall hp
          go_wp2_with fail
          refine HC2.out.mono ?_
          rintro _ w4 ⟨g, m, co, T, rfl, hFl, hTl, hgl, hown, hlie, hb4⟩
          have hbw4 := hbw.trans (hb4.mono hsz)
          have HOW := Lib.hid (own_base hown hsz)
          have HLI := Lib.hid hlie
          have hsz4 := hbw4.size
          have hm8 : m ≤ 8 := by rw [← hFl]; exact fieldsC_len c v
          have HFL := Lib.hid hFl
          have HTL := Lib.hid hTl
          clear hown hlie hFl hTl hb4 k0 k1 k2 k3 k4 k5 k6 k7
          go_wp2_with (at_builtin; refine wpList_append_rd _ rfl (.tmp 39) (.tmp 40) 40 rfl w.heap.size 55 i0 (.agg #[.int .i64 0, .int .i64 0, .int .u64 0, .slice none 0 0]) 4 48 Try.underlying40 hi hz0 hz1 hz2 rfl (by decide) _ m _ rfl HOW.out w.heap.size A j cc (rcells rest S) rfl (HR.out.below hbw4).2.2.1 (rcells_one4 _ _) (by unfold maxLen; omega) (by omega) (by omega) ?_)
          intro v5 w5 hown5 hg5
          obtain ⟨A5, c5, rfl, hc5, hm5, hrd5, hb5⟩ := joined_rd hbw4 HFL.out HTL.out HOW.out HLI.out HR.out hown5 hg5
          have hfo : ∀ f ∈ fieldsC c v ++ rest, Fok f := fun f hf => (List.mem_append.1 hf).elim (fields_ok HPU.out HCO.out v f) (HFO.out f)
          have hput := put_row A5 (m + j) c5 (fieldsC c v ++ rest) (T ++ S) w5 hrd5 hc5 hm5 (by omega) hfo
          rw [← HPQ.out] at hput
          have HPT := Lib.hid hput
          have hsz5 := hb5.size
          clear hown5 hg5 hrd5 hfo hput
          go_wp2_with fail
          refine HPT.out.mono ?_
          rintro _ w6 ⟨v6, rfl, hown6, hb6⟩
          go_wp2
          go_ret2
          exact ⟨_, rfl, own_base hown6 hsz5, hb5.trans (hb6.mono hsz5)⟩
end Go.Proofs.Ytkagonijkalicaa
