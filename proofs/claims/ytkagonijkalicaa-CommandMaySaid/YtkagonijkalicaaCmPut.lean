/-
  The walk of the reference of layer 5: Put.
-/
import Derived.Test.YtkagonijkalicaaCmFields
import Derived.Test.YtkagonijkalicaaCmFor
import Derived.Test.YtkagonijkalicaaCmMayW
import Derived.Test.YtkagonijkalicaaMgJ
import Derived.Test.YtkagonijkalicaaMgF
import Derived.Test.YtkagonijkalicaaMgE
set_option linter.unusedVariables false
set_option linter.unusedSimpArgs false
namespace Go.Proofs.Ytkagonijkalicaa
open Go.RowKit
open Cm (Cmd inR inR_iff needs need row numF numsF chunkF textF fieldsC chunksB row_mem putC foreignC mayC mayNum mayChunks mayText forNum forChunks forText)
open Tl (Fel putRow)
open Fo (top)

theorem needs_20 {x : Int} {u : Bool} {a b : Int} (h : needs x u a b = true) (ha : 0 ≤ a) (hb : b ≤ 1048576) : 0 ≤ x ∧ x ≤ 1048577 := by
  unfold needs at h
  split at h
  · have := inR_iff.1 h; omega
  · simp at h; omega
theorem need_kind {k : Int} (h : need k ≠ 0) : 1 ≤ k ∧ k ≤ 12 := by
  unfold need at h
  split at h
  · rename_i h1; have := inR_iff.1 h1; omega
  split at h
  · rename_i h1; have := inR_iff.1 h1; omega
  split at h
  · rename_i h1; have := inR_iff.1 h1; omega
  · exact absurd rfl h
/-- What may be laid down. -/
def Puts (c : Cmd) : Prop := N20 c ∧ (c.chunks = [] ∨ row c.chunks = true) ∧ c.text.length ≤ 16 ∧ 1 ≤ c.kind
theorem foreign_puts {c : Cmd} {v : Int} (h : foreignC c v = true) : Puts c := by
  unfold foreignC forNum forChunks forText at h
  simp only [Bool.and_eq_true, Bool.or_eq_true, decide_eq_true_eq, inR_iff, List.length_eq_zero_iff] at h
  obtain ⟨h1, _, ⟨h2, h3, h4, h5, h6⟩, h7, h8⟩ := h
  refine ⟨⟨by omega, by omega, by omega, by omega, by omega, by omega⟩, h7, ?_, h1.1⟩
  rcases h8 with h8 | h8
  · rw [h8]; simp
  · exact h8.2
theorem may_puts {c : Cmd} {v : Int} (h : mayC c v = 0) : Puts c := by
  unfold mayC at h
  split at h
  · cases h
  rename_i h1
  split at h
  · cases h
  split at h
  · rename_i h3
    simp only [Bool.and_eq_true] at h3
    obtain ⟨hn, hc, ht⟩ := h3
    have hk : need c.kind ≠ 0 := fun e => h1 (.inr e)
    have hkk := need_kind hk
    unfold mayNum at hn
    simp only [Bool.and_eq_true] at hn
    obtain ⟨a1, a2, a3, a4, a5⟩ := hn
    refine ⟨⟨by omega, needs_20 a1 (by omega) (by omega), needs_20 a2 (by omega) (by omega), needs_20 a3 (by omega) (by omega), needs_20 a4 (by omega) (by omega), needs_20 a5 (by split <;> omega) (by split; omega; split <;> omega)⟩, ?_, ?_, hkk.1⟩
    · unfold mayChunks at hc
      split at hc
      · exact .inr hc
      · simp at hc; exact .inl hc
    · unfold mayText at ht
      simp only [Bool.or_eq_true, Bool.and_eq_true, decide_eq_true_eq] at ht
      rcases ht with ht | ht
      · omega
      · exact ht.2
  · cases h
theorem numF_ok {i x : Int} (hi : 1 ≤ i ∧ i ≤ 6) (hx : 0 ≤ x ∧ x ≤ 1048577) : ∀ f ∈ numF i x, Fok f := by
  intro f hf
  unfold numF at hf
  split at hf
  · simp at hf
  · simp at hf
    subst hf
    exact ⟨⟨by simp; omega, by simp⟩, by simp; omega, by simp; omega, by simp, by simp, by simp⟩
theorem fields_ok {c : Cmd} (h : Puts c) (hc : Cok c) (v : Int) : ∀ f ∈ fieldsC c v, Fok f := by
  obtain ⟨⟨h1, h2, h3, h4, h5, h6⟩, hch, ht, _⟩ := h
  intro f hf
  unfold fieldsC numsF at hf
  simp only [List.mem_append] at hf
  rcases hf with (hf | hf | hf | hf | hf | hf) | hf | hf
  · exact numF_ok (by omega) h1 f hf
  · exact numF_ok (by omega) h2 f hf
  · exact numF_ok (by omega) h3 f hf
  · exact numF_ok (by omega) h4 f hf
  · exact numF_ok (by omega) h5 f hf
  · exact numF_ok (by omega) h6 f hf
  · unfold chunkF at hf
    split at hf
    · simp at hf
    · rename_i hne
      simp at hf
      have hr := hch.resolve_left hne
      obtain ⟨m1, m2, m3⟩ := row_mem hr
      have hp : (chunksB c.chunks).1 = c.chunks.map Int.toNat := by unfold chunksB; rw [hr]; rfl
      subst hf
      rw [hp]
      refine ⟨⟨by simp, ?_⟩, by simp, by simp, by simp, by simp, by simp; omega⟩
      intro b hb
      simp at hb
      obtain ⟨x, hx, rfl⟩ := hb
      have := m1 x hx
      omega
  · unfold textF at hf
    split at hf
    · simp at hf
      subst hf
      exact ⟨⟨by simp, hc.2.2.1⟩, by simp, by simp, by simp, by simp, by show c.text.length ≤ 17000; omega⟩
    · simp at hf
theorem fieldsC_len (c : Cmd) (v : Int) : (fieldsC c v).length ≤ 8 := by
  unfold fieldsC numsF chunkF textF
  simp only [List.length_append]
  have h1 := numF_len 1 c.kind
  have h2 := numF_len 2 c.client
  have h3 := numF_len 3 c.seq
  have h4 := numF_len 4 c.set
  have h5 := numF_len 5 c.id
  have h6 := numF_len 6 c.n
  split <;> split <;> simp <;> omega

/-- Fields of one's own, and others put behind them. -/
theorem joined_rd {w w1 w2 : World} {g m co n : Nat} {A : Option Addr} {v : Value} {F rest : List Fel} {T S : List (Option Addr × Nat)} (hb1 : Below w.heap.size w w1) (hF : F.length = m) (hT : T.length = m) (hrow : w1.ownsRow w.heap.size 55 4 (.slice (some ⟨g, 0, none⟩) m co) m (rcells F T)) (hlie : Lie w1 g F T)
    (hr : RdF w w.heap.size A n rest S) (hown : w2.ownsRow w.heap.size 55 4 v (m + n) (rcells F T ++ rcells rest S)) (hg : w1.grownBy w2 (Value.slice (some ⟨g, 0, none⟩) m co).ownBlock) :
    ∃ (A' : Option Addr) (c' : Nat), v = .slice A' (m + n) c' ∧ m + n ≤ c' ∧ c' ≤ 9223372036854775807 ∧ RdF w2 w2.heap.size A' (m + n) (F ++ rest) (T ++ S) ∧ Below w.heap.size w w2 := by
  have hb2 : Below w.heap.size w w2 := hb1.grown hg hb1.size (fun k hk => (hrow.lt k hk).1)
  obtain ⟨A', c', hv, h1, h2, h3⟩ := RdF.of_own (B := w2.heap.size) (l := F ++ rest) (S := T ++ S) (by rw [rcells_app _ _ _ _ (by rw [hT, hF])]; exact hown) (by rw [List.length_append, hF, hr.1]) (by rw [List.length_append, hT, hr.2.1]) (Nat.le_refl _) (fun k f s hf hs => by
    by_cases hk : k < m
    · rw [List.getElem?_append_left (by omega)] at hf hs
      obtain ⟨r1, r2, r3, r4⟩ := hlie k f s hf hs
      exact ⟨(r1.grown (Nat.le_refl _) hg (r4.imp id fun r4 ad had => by simp [Value.ownBlock]; exact r4 ad had)).more hg.size, r2, r3⟩
    · rw [List.getElem?_append_right (by omega)] at hf hs
      rw [hF] at hf
      rw [hT] at hs
      obtain ⟨r1, r2, r3⟩ := hr.2.2.2 (k - m) f s hf hs
      exact ⟨(r1.below hb2).more hb2.size, r2, r3⟩)
  exact ⟨A', c', hv, h1, h2, h3, hb2⟩

set_option maxHeartbeats 4000000 in
set_option maxRecDepth 100000 in
theorem rputc_any (c : Cmd) (s : Option Addr × Nat) (v : Int) (A : Option Addr) (n cc : Nat) (rest : List Fel) (S : List (Option Addr × Nat)) (w : World) (h : RdC w w.heap.size c s) (hc : Cok c) (hr : RdF w w.heap.size A n rest S) (hnc : n ≤ cc) (hmax : cc ≤ 9223372036854775807) (hn : n ≤ 19000) (hw : ∀ f ∈ rest, Fok f)
    (v0 : -9223372036854775808 ≤ v) (v1 : v ≤ 9223372036854775807) :
    Calls Try.prog 28 #[cagg c s, .slice A n cc, .int .i64 v] w (NewPair w (putC c rest v).1 ((putC c rest v).2 : Nat)) := by
  obtain ⟨i0, hi, hz0, hz1, hz2⟩ := info_parts field_info
  obtain ⟨w0, hw0, hk0, hb0, hs0⟩ := box_cmd w c s 24
  obtain ⟨k0, k1, k2, k3, k4, k5, k6, k7⟩ := cblk_cells hk0
  have hrc0 := (h.below hb0).more (Nat.le_of_lt hs0)
  obtain ⟨P, hP⟩ : ∃ P, putC c rest v = P := ⟨_, rfl⟩
  rw [hP]
  have HP := Lib.hid hP
  have HW := Lib.hid hw0
  have HK := Lib.hid hk0
  have HRC := Lib.hid hrc0
  have HRW := Lib.hid h
  have HR := Lib.hid hr
  have HL := Lib.hid hr.1
  have HFO := Lib.hid hw
  have HCO := Lib.hid hc
  have hm18 : mayC c v ≤ 10 := by unfold mayC; split; omega; split; omega; split <;> omega
  have HCF := Lib.hid (foreign_any c s v w0 hrc0 hc)
  clear hw0 hk0 hrc0 hP h hr hw hc
  unfold cagg cblk at *
  go_enter Try.func28, Try.ntmps28
  go_upto_region 1 with fail
  rw [show w.alloc (.cells #[.int .i64 c.kind, .int .i64 c.client, .int .i64 c.seq, .int .i64 c.set, .int .i64 c.id, .int .i64 c.n, .slice s.1 c.chunks.length s.2, .string (strOf c.text)] 24) = w0 from HW.out.symm]
  cases hv : inR v 1 3 with
  | false =>
    obtain rfl : P = ([], 1) := by rw [← HP.out]; unfold putC; rw [if_pos hv]
    go_wp2_with (go_at_call 42; refine (in_e hv _).mono ?_; rintro _ _ ⟨rfl, rfl⟩)
    go_ret2
    exact ⟨_, rfl, World.ownsRow_nil _ _ _ _, hb0⟩
  | true =>
    have hp1 : P = if foreignC c v = false ∧ mayC c v ≠ 0 then ([], mayC c v) else if rest.any (fun f => decide (f.num ≤ top 1 v)) then ([], 6) else putRow (fieldsC c v ++ rest) := by rw [← HP.out]; unfold putC; rw [if_neg (by rw [hv]; decide)]
    have HP := Lib.hid hp1
    clear hp1
    go_upto_if 16 with (first
      | (go_at_call 42; refine (in_e hv _).mono ?_; rintro _ _ ⟨rfl, rfl⟩)
      | (go_at_call 50; refine HCF.out.mono ?_; rintro _ w1 ⟨rfl, hb1⟩))
    have HK1 := Lib.hid (HK.out.below hb1 hs0)
    have hs1 : w.heap.size < w1.heap.size := Nat.lt_of_lt_of_le hs0 hb1.size
    have hbw1 := hb0.trans (hb1.mono (Nat.le_of_lt hs0))
    replace k0 := (hb1.cell (p := ⟨w.heap.size, 0, none⟩) hs0).trans k0
    replace k1 := (hb1.cell (p := ⟨w.heap.size, 1, none⟩) hs0).trans k1
    replace k2 := (hb1.cell (p := ⟨w.heap.size, 2, none⟩) hs0).trans k2
    replace k3 := (hb1.cell (p := ⟨w.heap.size, 3, none⟩) hs0).trans k3
    replace k4 := (hb1.cell (p := ⟨w.heap.size, 4, none⟩) hs0).trans k4
    replace k5 := (hb1.cell (p := ⟨w.heap.size, 5, none⟩) hs0).trans k5
    replace k6 := (hb1.cell (p := ⟨w.heap.size, 6, none⟩) hs0).trans k6
    replace k7 := (hb1.cell (p := ⟨w.heap.size, 7, none⟩) hs0).trans k7
    have HRC1 := Lib.hid ((HRC.out.below hb1).more hb1.size)
    obtain ⟨F, hF⟩ : ∃ F, foreignC c v = F := ⟨_, rfl⟩
    rw [hF]
    have HF := Lib.hid hF
    clear hF hb1 HCF HW
    go_cut [] (fun wx => Puts c ∧ P = (if rest.any (fun f => decide (f.num ≤ top 1 v)) then ([], 6) else putRow (fieldsC c v ++ rest)) ∧ Below w1.heap.size w1 wx)
    case first =>
      cases F with
      | true =>
        go_wp2
        go_meet
        case rel => exact ⟨foreign_puts HF.out, by rw [HP.out, if_neg (by rw [HF.out]; simp)], Below.refl _ _⟩
      | false =>
        have hcall := rmayc_any c s v w1 HRC1.out HCO.out
        unfold cagg cblk at hcall
        obtain ⟨m, hm⟩ : ∃ m, mayC c v = m := ⟨_, rfl⟩
        rw [hm] at hcall hm18
        have HM := Lib.hid hm
        have HC2 := Lib.hid hcall
        clear hm hcall
        by_cases h0 : m = 0
        · subst h0
          go_wp2_with fail
          refine HC2.out.mono ?_
          rintro _ w2 ⟨rfl, hb2⟩
          go_wp2
          go_meet
          case rel => exact ⟨may_puts HM.out, by rw [HP.out, if_neg (by rw [HM.out]; simp)], hb2⟩
        · have q : ((m : Int) != 0) = true := by rw [bne_iff_ne]; omega
          have hp : P = ([], m) := by rw [HP.out, if_pos ⟨HF.out, by rw [HM.out]; exact h0⟩, HM.out]
          have HPP := Lib.hid hp
          clear hp h0
          go_wp2_with fail
          refine HC2.out.mono ?_
          rintro _ w2 ⟨rfl, hb2⟩
          go_wp2
          go_ret2
          rw [HPP.out]
          exact ⟨_, rfl, World.ownsRow_nil _ _ _ _, hbw1.trans (hb2.mono (Nat.le_of_lt hs1))⟩
    case rest =>
      obtain ⟨hputs, hpp, hb2⟩ := hcut
      obtain ⟨w2, rfl⟩ : ∃ w2, w2 = wc := ⟨_, rfl⟩
      have hbw2 := hbw1.trans (hb2.mono (Nat.le_of_lt hs1))
      have hs2 : w.heap.size < w2.heap.size := Nat.lt_of_lt_of_le hs1 hb2.size
      have HK2 := Lib.hid (HK1.out.below hb2 hs1)
      have HPU := Lib.hid hputs
      have HPP := Lib.hid hpp
      clear hputs hpp hb2 HP HF k0 k1 k2 k3 k4 k5 k6 k7
      go_wp2
      go_loopw [9] (fun i wr => ∃ j : Nat, j ≤ n ∧ i = .int .i64 (j : Int) ∧ rest.any (fun f => decide (f.num ≤ top 1 v)) = (rest.drop j).any (fun f => decide (f.num ≤ top 1 v)) ∧ Below w2.heap.size w2 wr) (fun i _ => n - (intOf i).toNat)
      case atStart => exact ⟨0, Nat.zero_le _, rfl, rfl, Below.refl _ _⟩
      case round =>
        obtain ⟨j, hj, rfl, hm, hb⟩ := hrel
        have HM := Lib.hid hm
        have hbw := hbw2.trans (hb.mono (Nat.le_of_lt hs2))
        have hsz := hbw.size
        clear hm
        by_cases hlt : j < n
        · obtain ⟨ad, f, sf, rfl, hab, hf, hs, g0, g1, g2, g3, hrd, hs1', hs2'⟩ := (HR.out.below hbw).spell hlt
          have hpl0 : (ad.add (j * 4)).block < wr.heap.size := by rw [add_block]; omega
          have hst : (rest.drop j).any (fun f => decide (f.num ≤ top 1 v)) = (decide (f.num ≤ top 1 v) || (rest.drop (j + 1)).any (fun f => decide (f.num ≤ top 1 v))) := by
            have hl := (List.getElem?_eq_some_iff.1 hf).1
            rw [List.drop_eq_getElem_cons hl, List.any_cons]
            have e : rest[j] = f := by rw [List.getElem?_eq_getElem hl] at hf; exact Option.some.inj hf
            rw [e]
          obtain ⟨D, hD⟩ : ∃ D, decide (f.num ≤ top 1 v) = D := ⟨_, rfl⟩
          rw [hD] at hst
          have HST := Lib.hid hst
          have HDD := Lib.hid hD
          clear hst hD hf hs g1 g2 g3 hrd
          go_upto_region 10 with fail
          go_cut [36] (fun b wx => b = .bool D ∧ Below wr.heap.size wr wx)
          case first =>
            refine wp_region_grew (n := 45) (Say [(29, isv (.slice (some ad) n cc)), (30, isv (.int .i64 (j : Int))), (31, isv (.pointer (some (ad.add (j * 4))))), (32, isv (.pointer (some (ad.add (j * 4))))), (33, isv (.int .i64 f.num)), (34, isv (.int .i64 v)), (35, isv (.int .i64 (top 1 v))), (36, isv (.bool D))]) (by kernel_rfl) (by kernel_rfl) rfl ⟨?_, ?_, ?_, ?_, ?_, ?_, ?_, ?_, trivial⟩ ?_
            · exact owed_move rfl rfl (.inl rfl) fun fr w _ hK => known_out hK 1 (by kernel_rfl)
            · exact owed_move rfl rfl (.inl rfl) fun fr w _ hK => known_out hK 9 (by kernel_rfl)
            · refine owed_val _ rfl rfl (fun _ => rfl) fun fr w hC hK => ?_
              have k29 : slot fr 29 = .slice (some ad) n cc := known_in hK 29 (by kernel_rfl)
              have k30 : slot fr 30 = .int .i64 (j : Int) := known_in hK 30 (by kernel_rfl)
              clear hK
              unfold slot at k29 k30
              have f2 : ¬ n ≤ j := by omega
              go_simp
            · refine owed_val _ rfl rfl (fun _ => rfl) fun fr w hC hK => ?_
              have k31 : slot fr 31 = .pointer (some (ad.add (j * 4))) := known_in hK 31 (by kernel_rfl)
              clear hK
              unfold slot at k31
              go_simp
            · refine owed_val _ rfl rfl (fun _ => rfl) fun fr w hC hK => ?_
              have k32 : slot fr 32 = .pointer (some (ad.add (j * 4))) := known_in hK 32 (by kernel_rfl)
              clear hK
              unfold slot at k32
              have x0 := (Below.cell hC (p := ad.add (j * 4)) hpl0).trans g0
              go_simp
            · exact owed_move rfl rfl (.inl rfl) fun fr w _ hK => known_out hK 2 (by kernel_rfl)
            · refine owed_plain rfl rfl fun fr w hC hK K hk => ?_
              have k34 : slot fr 34 = .int .i64 v := known_in hK 34 (by kernel_rfl)
              clear hK
              unfold slot at k34
              go_simp
              refine (rtop_any 1 v w (by decide) (by decide) v0 v1).mono ?_
              rintro e w' ⟨rfl, hb⟩
              exact hk _ _ hb rfl
            · refine owed_val _ rfl rfl (fun _ => rfl) fun fr w hC hK => ?_
              have k33 : slot fr 33 = .int .i64 f.num := known_in hK 33 (by kernel_rfl)
              have k35 : slot fr 35 = .int .i64 (top 1 v) := known_in hK 35 (by kernel_rfl)
              clear hK
              unfold slot at k33 k35
              have hq := HDD.out
              go_simp
            intro vs w' hg hgood
            have h6 : vs 36 = .bool D := hgood.2.2.2.2.2.2.2.1
            clear hgood
            simp only [putsOf]
            rw [h6]
            go_simp
            go_wp2
            go_meet
            case rel => exact ⟨rfl, hg⟩
          case rest =>
            obtain ⟨rfl, hb3⟩ := hcut
            obtain ⟨w3, rfl⟩ : ∃ w3, w3 = wc := ⟨_, rfl⟩
            have hb23 : Below w2.heap.size w2 w3 := hb.trans (hb3.mono hb.size)
            clear g0 hb3
            cases D with
            | true =>
              have hp : P = ([], 6) := by rw [HPP.out, HM.out, HST.out, Bool.true_or, if_pos rfl]
              have HPQ := Lib.hid hp
              clear hp
              go_wp2
              go_ret2
              rw [HPQ.out]
              exact ⟨_, rfl, World.ownsRow_nil _ _ _ _, hbw2.trans (hb23.mono (Nat.le_of_lt hs2))⟩
            | false =>
              go_wp2
              go_roundw
              case rel => exact ⟨j + 1, by omega, by go_num, by rw [HM.out, HST.out, Bool.false_or], hb23⟩
              case measure => simp [intOf]; omega
        · obtain rfl : j = n := by omega
          have hp : P = putRow (fieldsC c v ++ rest) := by rw [HPP.out, HM.out, List.drop_eq_nil_of_le (by have := HL.out; omega), if_neg (by simp)]
          have hk := HK2.out.below hb hs2
          obtain ⟨k0, k1, k2, k3, k4, k5, k6, k7⟩ := cblk_cells hk
          have hcall := rfields_any c s v wr ((HRW.out.below hbw).more hsz) HCO.out HPU.out.1 HPU.out.2.1
          unfold cagg cblk at hcall
          have HC2 := Lib.hid hcall
          have HPQ := Lib.hid hp
          clear hk hcall hp
          go_wp2_with fail
          refine HC2.out.mono ?_
          rintro _ w3 ⟨g, m, co, T, rfl, hFl, hTl, hgl, hown, hlie, hb3⟩
          have hbw3 := hbw.trans (hb3.mono hsz)
          have HOW := Lib.hid (own_base hown hsz)
          have HLI := Lib.hid hlie
          have hsz3 := hbw3.size
          have hm8 : m ≤ 8 := by rw [← hFl]; exact fieldsC_len c v
          have HFL := Lib.hid hFl
          have HTL := Lib.hid hTl
          clear hown hlie hFl hTl hb3 k0 k1 k2 k3 k4 k5 k6 k7
          go_wp2_with (at_builtin; refine wpList_append_rd _ rfl (.tmp 39) (.tmp 40) 40 rfl w.heap.size 55 i0 (.agg #[.int .i64 0, .int .i64 0, .int .u64 0, .slice none 0 0]) 4 48 Try.underlying40 hi hz0 hz1 hz2 rfl (by decide) _ m _ rfl HOW.out w.heap.size A j cc (rcells rest S) rfl (HR.out.below hbw3).2.2.1 (rcells_one4 _ _) (by unfold maxLen; omega) (by omega) (by omega) ?_)
          intro v4 w4 hown4 hg4
          obtain ⟨A4, c4, rfl, hc4, hm4, hrd4, hb4⟩ := joined_rd hbw3 HFL.out HTL.out HOW.out HLI.out HR.out hown4 hg4
          have hfo : ∀ f ∈ fieldsC c v ++ rest, Fok f := fun f hf => (List.mem_append.1 hf).elim (fields_ok HPU.out HCO.out v f) (HFO.out f)
          have hput := rput_row A4 (m + j) c4 (fieldsC c v ++ rest) (T ++ S) w4 hrd4 hc4 hm4 (by omega) hfo
          rw [← HPQ.out] at hput
          have HPT := Lib.hid hput
          have hsz4 := hb4.size
          clear hown4 hg4 hrd4 hfo hput
          go_wp2_with fail
          refine HPT.out.mono ?_
          rintro _ w5 ⟨v5, rfl, hown5, hb5⟩
          go_wp2
          go_ret2
          exact ⟨_, rfl, own_base hown5 hsz4, hb4.trans (hb5.mono hsz4)⟩
end Go.Proofs.Ytkagonijkalicaa
