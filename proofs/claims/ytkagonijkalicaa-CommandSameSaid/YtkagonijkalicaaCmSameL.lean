/-
  The walk of the law that two commands have the same bytes just if they are the same.
-/
import Derived.Test.YtkagonijkalicaaMgQ
import Derived.Test.YtkagonijkalicaaCmOlder
set_option linter.unusedVariables false
set_option linter.unusedSimpArgs false
namespace Go.Proofs.Ytkagonijkalicaa
open Go.RowKit
open Cm (Cmd need mayC putC takeC project inR inR_iff fieldsC numsF numF chunkF textF row row_mem)
open Tl (Fel flat may)
open Fo (top)

def f99 : Fel := ⟨99, 0, 1, []⟩
theorem flat_one {l : List Fel} {k : Nat} (h : l.length ≤ 1) (hb : ∀ f ∈ l, f.b.length ≤ k) : (flat l).length ≤ 12 + k := by
  match l, h with
  | [], _ => simp [flat]
  | [f], _ =>
    have h1 := one_small (f := f)
    have h2 := hb f (by simp)
    simp [flat]
    omega
theorem fields_small {c : Cmd} (hp : Puts c) (v : Int) : (flat (fieldsC c v)).length ≤ 120 := by
  have hN : ∀ i x : Int, (flat (numF i x)).length ≤ 12 := fun i x => flat_one (k := 0) (numF_len i x) (fun f hf => by unfold numF at hf; split at hf; simp at hf; simp at hf; subst hf; simp)
  have hC : (flat (chunkF c)).length ≤ 12 + 8 := flat_one (by unfold chunkF; split <;> simp) (fun f hf => by
    unfold chunkF at hf
    split at hf
    · simp at hf
    · rename_i hne
      simp at hf
      subst hf
      have hr := hp.2.1.resolve_left hne
      rw [chunksB_row hr]
      simp only [List.length_map]
      exact (row_mem hr).2.2)
  have hT : (flat (textF c v)).length ≤ 12 + 16 := flat_one (by unfold textF; split <;> simp) (fun f hf => by
    unfold textF at hf
    split at hf
    · simp at hf
      subst hf
      exact hp.2.2.1
    · simp at hf)
  unfold fieldsC numsF
  simp only [Tl.flat_app, List.length_append]
  have h1 := hN 1 c.kind
  have h2 := hN 2 c.client
  have h3 := hN 3 c.seq
  have h4 := hN 4 c.set
  have h5 := hN 5 c.id
  have h6 := hN 6 c.n
  omega
theorem put_99 {c : Cmd} {v : Int} {x : List Nat} (h : putC c [] v = (x, 0)) : putC c [f99] v = (x ++ [152, 6, 1], 0) := by
  obtain ⟨hv, hm, _, hput⟩ := putC_ok.1 h
  rw [List.append_nil] at hput
  obtain ⟨hmay, hx⟩ := putRow_ok hput
  have hp := puts_of hm
  have htop := top_val hv
  have h99 : flat [f99] = [152, 6, 1] := by decide
  have hsm := fields_small hp v
  obtain ⟨j1, j2⟩ := Tl.may_join (a := fieldsC c v) (l := [f99]) 8 hmay (fun f hf => by have := fields_top hp.2.1 hv f hf; rw [htop] at this; split at this <;> omega) (by decide) (by simp [f99]) (by rw [h99]; simp only [List.length_cons, List.length_nil]; omega)
  refine putC_ok.2 ⟨hv, hm, ?_, ?_⟩
  · intro f hf
    simp at hf
    subst hf
    rw [htop]
    show _ < (99 : Int)
    split <;> omega
  · unfold Tl.putRow
    rw [if_neg (by omega), j2, h99, hx]
theorem same_iff {c d : Cmd} {v : Int} {x y : List Nat} (hc : Cok c) (hd : Cok d) (h1 : putC c [] v = (x, 0)) (h2 : putC d [] v = (y, 0)) : decide (x = y) = decide (c = d) := by
  rw [decide_eq_decide]
  constructor
  · rintro rfl
    have e1 := put_back hc (by simp) h1
    rw [put_back hd (by simp) h2] at e1
    exact (congrArg Prod.fst e1).symm
  · rintro rfl
    rw [h1] at h2
    exact congrArg Prod.fst h2

set_option maxHeartbeats 8000000 in
set_option maxRecDepth 100000 in
theorem csame_any (c d : Cmd) (s t : Option Addr × Nat) (ver : Int) (W : World) (h : RdC W W.heap.size c s) (hc : Cok (fewC c)) (ht : c.text.length ≤ 9223372036854775807) (h' : RdC W W.heap.size d t) (hd : Cok (fewC d)) (ht' : d.text.length ≤ 9223372036854775807) (hver : 0 ≤ ver ∧ ver ≤ 255) :
    Calls Try.prog 9 #[cagg c s, cagg d t, .int .u8 ver] W fun e w' => e = .returned (.bool true) ∧ Below W.heap.size W w' := by
  obtain ⟨w0', hw0', hk0', hb0', hs0'⟩ := box_cmd W c s 24
  obtain ⟨w0, hw0, hk0, hb0, hs0⟩ := box_cmd w0' d t 24
  have hsz0 : w0'.heap.size = W.heap.size + 1 := by rw [hw0']; simp
  have hbw0 : Below W.heap.size W w0 := hb0'.trans (hb0.mono (Nat.le_of_lt hs0'))
  obtain ⟨g1, hg1⟩ : ∃ g1, g1 = W.heap.size + 1 := ⟨_, rfl⟩
  have hgg : W.heap.size ≠ g1 := by omega
  rw [hsz0, ← hg1] at hk0
  have hfew := fun w' (h' : RdC w' w'.heap.size c s) => fewc_same c s w' h' ht
  have hfew' := fun w' (h : RdC w' w'.heap.size d t) => fewc_same d t w' h ht'
  have hrF : ∀ w', Below W.heap.size W w' → RdC w' w'.heap.size (fewC c) s := fun w' hb' => few_rd h hb'
  have hrG : ∀ w', Below W.heap.size W w' → RdC w' w'.heap.size (fewC d) t := fun w' hb' => few_rd h' hb'
  obtain ⟨F, hF⟩ : ∃ F, fewC c = F := ⟨_, rfl⟩
  obtain ⟨G, hG⟩ : ∃ G, fewC d = G := ⟨_, rfl⟩
  rw [hF] at hc hfew hrF
  rw [hG] at hd hfew' hrG
  obtain ⟨V, hV⟩ : ∃ V : Int, 1 + ver % 3 = V := ⟨_, rfl⟩
  have hV13 : 1 ≤ V ∧ V ≤ 3 := by omega
  have hvI : I64 V := by unfold I64; omega
  have HV := Lib.hid hV
  have HFEW := Lib.hid hfew
  have HFEW' := Lib.hid hfew'
  have HRF := Lib.hid hrF
  have HRG := Lib.hid hrG
  have HOK := Lib.hid hc
  have HOG := Lib.hid hd
  have HK := Lib.hid (hk0'.below hb0 hs0')
  have HJ := Lib.hid hk0
  have HW := Lib.hid (show w0 = (W.alloc (.cells (cblk c s) 24)).alloc (.cells (cblk d t) 24) by rw [hw0, hw0'])
  have HG1 := Lib.hid hg1
  have HRC := Lib.hid ((h.below hbw0).more hbw0.size)
  have HRD := Lib.hid ((h'.below hbw0).more hbw0.size)
  have HD0 := Lib.hid h'
  have HRF0 := Lib.hid hrF
  have hlt : W.heap.size < w0.heap.size := Nat.lt_trans hs0' hs0
  have hbw := hbw0
  obtain ⟨k0, k1, k2, k3, k4, k5, k6, k7⟩ := cblk_cells HK.out
  clear hw0 hk0 h hc hfew hrF hF hb0 hw0' hk0' hb0' hs0' hs0 hsz0 hbw0 hg1 h' hd hfew' hrG hG hV
  unfold cagg cblk at *
  go_enter Try.func9, Try.ntmps9
  go_upto_region 1 with fail
  rw [← HW.out, ← HG1.out]
  go_wp2_with fail
  refine (cshown_any w0).mono ?_
  rintro e w1 ⟨rfl, hb1⟩
  replace hlt := Nat.lt_of_lt_of_le hlt hb1.size
  clear k0 k1 k2 k3 k4 k5 k6 k7
  replace HK := Lib.hid (HK.out.below hb1 HK.out.lt)
  replace HJ := Lib.hid (HJ.out.below hb1 HJ.out.lt)
  replace HRC := Lib.hid ((HRC.out.below hb1).more hb1.size)
  replace HRD := Lib.hid ((HRD.out.below hb1).more hb1.size)
  replace hbw := hbw.trans (hb1.mono hbw.size)
  clear hb1
  obtain ⟨k0, k1, k2, k3, k4, k5, k6, k7⟩ := cblk_cells HK.out
  go_wp2_with fail
  refine (HFEW.out w1 HRC.out).mono ?_
  rintro e w2 ⟨rfl, hb2⟩
  replace hlt := Nat.lt_of_lt_of_le hlt hb2.size
  clear k0 k1 k2 k3 k4 k5 k6 k7
  replace HK := Lib.hid (HK.out.below hb2 HK.out.lt)
  replace HJ := Lib.hid (HJ.out.below hb2 HJ.out.lt)
  replace HRD := Lib.hid ((HRD.out.below hb2).more hb2.size)
  replace hbw := hbw.trans (hb2.mono hbw.size)
  clear hb2
  obtain ⟨k0, k1, k2, k3, k4, k5, k6, k7⟩ := cblk_cells HK.out
  obtain ⟨z0, z1, z2, z3, z4, z5, z6, z7⟩ := frozen_facts HK.out
  obtain ⟨h1, h2⟩ := blk_set8 HK.out (.int .i64 F.kind) (.int .i64 F.client) (.int .i64 F.seq) (.int .i64 F.set) (.int .i64 F.id) (.int .i64 F.n) (.slice s.1 F.chunks.length s.2) (.string (strOf F.text))
  obtain ⟨w3, hw3⟩ : ∃ w3, w3 = ((((((((w2.setCell ⟨W.heap.size, 0, none⟩ (.int .i64 F.kind)).setCell ⟨W.heap.size, 1, none⟩ (.int .i64 F.client)).setCell ⟨W.heap.size, 2, none⟩ (.int .i64 F.seq)).setCell ⟨W.heap.size, 3, none⟩ (.int .i64 F.set)).setCell ⟨W.heap.size, 4, none⟩ (.int .i64 F.id)).setCell ⟨W.heap.size, 5, none⟩ (.int .i64 F.n)).setCell ⟨W.heap.size, 6, none⟩ (.slice s.1 F.chunks.length s.2)).setCell ⟨W.heap.size, 7, none⟩ (.string (strOf F.text))) := ⟨_, rfl⟩
  rw [← hw3] at h1 h2
  have hbx3 : Below W.heap.size W w3 := hbw.grown h2 (Nat.le_of_lt hlt) (fun k hk => by injection hk with hk; omega)
  have HW3 := Lib.hid hw3
  replace HK := Lib.hid (show Blk w3 W.heap.size 24 (cblk F s) from h1)
  replace HJ := Lib.hid (show Blk w3 g1 24 (cblk d t) from (h2.block _ HJ.out.lt (by simpa using hgg.symm)).trans HJ.out)
  replace HRC := Lib.hid (HRF.out w3 hbx3)
  replace HRD := Lib.hid ((HD0.out.below hbx3).more hbx3.size)
  replace hlt : W.heap.size < w3.heap.size := h1.lt
  replace hbw := hbx3
  clear hw3 h1 h2 hbx3 HRF HFEW
  go_upto_region 3 with fail
  rw [← HW3.out]
  clear k0 k1 k2 k3 k4 k5 k6 k7 z0 z1 z2 z3 z4 z5 z6 z7 HW3
  obtain ⟨k0, k1, k2, k3, k4, k5, k6, k7⟩ := cblk_cells HJ.out
  go_wp2_with fail
  refine (HFEW'.out w3 HRD.out).mono ?_
  rintro e w2 ⟨rfl, hb2⟩
  replace hlt := Nat.lt_of_lt_of_le hlt hb2.size
  clear k0 k1 k2 k3 k4 k5 k6 k7
  replace HK := Lib.hid (HK.out.below hb2 HK.out.lt)
  replace HJ := Lib.hid (HJ.out.below hb2 HJ.out.lt)
  replace HRC := Lib.hid ((HRC.out.below hb2).more hb2.size)
  replace hbw := hbw.trans (hb2.mono hbw.size)
  clear hb2
  obtain ⟨k0, k1, k2, k3, k4, k5, k6, k7⟩ := cblk_cells HJ.out
  obtain ⟨z0, z1, z2, z3, z4, z5, z6, z7⟩ := frozen_facts HJ.out
  obtain ⟨h1, h2⟩ := blk_set8 HJ.out (.int .i64 G.kind) (.int .i64 G.client) (.int .i64 G.seq) (.int .i64 G.set) (.int .i64 G.id) (.int .i64 G.n) (.slice t.1 G.chunks.length t.2) (.string (strOf G.text))
  obtain ⟨w4, hw4⟩ : ∃ w4, w4 = ((((((((w2.setCell ⟨g1, 0, none⟩ (.int .i64 G.kind)).setCell ⟨g1, 1, none⟩ (.int .i64 G.client)).setCell ⟨g1, 2, none⟩ (.int .i64 G.seq)).setCell ⟨g1, 3, none⟩ (.int .i64 G.set)).setCell ⟨g1, 4, none⟩ (.int .i64 G.id)).setCell ⟨g1, 5, none⟩ (.int .i64 G.n)).setCell ⟨g1, 6, none⟩ (.slice t.1 G.chunks.length t.2)).setCell ⟨g1, 7, none⟩ (.string (strOf G.text))) := ⟨_, rfl⟩
  rw [← hw4] at h1 h2
  have hbx4 : Below W.heap.size W w4 := hbw.grown h2 (Nat.le_of_lt hlt) (fun k hk => by injection hk with hk; have := HG1.out; omega)
  have HW4 := Lib.hid hw4
  replace HJ := Lib.hid (show Blk w4 g1 24 (cblk G t) from h1)
  replace HK := Lib.hid (show Blk w4 W.heap.size 24 (cblk F s) from (h2.block _ HK.out.lt (by simpa using hgg)).trans HK.out)
  replace HRD := Lib.hid (HRG.out w4 hbx4)
  replace HRC := Lib.hid (HRF0.out w4 hbx4)
  replace hlt : W.heap.size < w4.heap.size := Nat.lt_of_lt_of_le hlt h2.size
  replace hbw := hbx4
  clear hw4 h1 h2 hbx4 HRG HFEW'
  go_upto_region 4 with fail
  rw [← HW4.out]
  clear k0 k1 k2 k3 k4 k5 k6 k7 z0 z1 z2 z3 z4 z5 z6 z7 HW4
  go_cut [8] (fun b wx => b = .int .i64 V ∧ wx = w4)
  case first =>
    go_wp2
    go_meet
    case rel => exact ⟨by rw [HV.out], rfl⟩
  case rest =>
    obtain ⟨rfl, hwc⟩ := hcut
    have hwc := hwc.symm
    subst hwc
    obtain ⟨x1, e1, hp1⟩ : ∃ x e, putC F [] V = (x, e) := ⟨_, _, rfl⟩
    obtain ⟨x2, e2, hp2⟩ : ∃ x e, putC G [] V = (x, e) := ⟨_, _, rfl⟩
    obtain ⟨m1, hm1⟩ : ∃ m, x1.length = m := ⟨_, rfl⟩
    obtain ⟨m2, hm2⟩ : ∃ m, x2.length = m := ⟨_, rfl⟩
    have hb1 := putC_byte (v := V) HOK.out (show ∀ f ∈ ([] : List Fel), Fok f by simp)
    have hb2 := putC_byte (v := V) HOG.out (show ∀ f ∈ ([] : List Fel), Fok f by simp)
    rw [hp1] at hb1
    rw [hp2] at hb2
    have HB1 := Lib.hid hb1
    have HB2 := Lib.hid hb2
    have HP1 := Lib.hid hp1
    have HP2 := Lib.hid hp2
    have HM1 := Lib.hid hm1
    have HM2 := Lib.hid hm2
    have hput := put_c F s V none 0 0 [] [] w4 HRC.out HOK.out (RdF.nil _ _ _) (Nat.le_refl _) (by omega) (by omega) (by simp) hvI
    rw [hp1] at hput
    simp only [hm1] at hput
    have HPU := Lib.hid hput
    unfold cagg cblk at HPU
    obtain ⟨k0, k1, k2, k3, k4, k5, k6, k7⟩ := cblk_cells HK.out
    clear hb1 hb2 hp1 hp2 hm1 hm2 hput
    go_wp2_with fail
    refine HPU.out.mono ?_
    rintro e w5 ⟨v5, rfl, hown5, hb5⟩
    simp only [HM1.out] at hown5
    obtain ⟨A4, c4, rfl, hc4, hc42⟩ := slice_of_own hown5
    have HX4 := Lib.hid (Rd.of_own hown5)
    replace hlt := Nat.lt_of_lt_of_le hlt hb5.size
    clear hown5 HPU k0 k1 k2 k3 k4 k5 k6 k7
    replace HK := Lib.hid (HK.out.below hb5 HK.out.lt)
    replace HJ := Lib.hid (HJ.out.below hb5 HJ.out.lt)
    replace HRC := Lib.hid ((HRC.out.below hb5).more hb5.size)
    replace HRD := Lib.hid ((HRD.out.below hb5).more hb5.size)
    replace hbw := hbw.trans (hb5.mono hbw.size)
    clear hb5
    have hput := put_c G t V none 0 0 [] [] w5 HRD.out HOG.out (RdF.nil _ _ _) (Nat.le_refl _) (by omega) (by omega) (by simp) hvI
    rw [HP2.out] at hput
    have HPU := Lib.hid hput
    unfold cagg cblk at HPU
    obtain ⟨k0, k1, k2, k3, k4, k5, k6, k7⟩ := cblk_cells HJ.out
    clear hput
    go_wp2_with fail
    refine HPU.out.mono ?_
    rintro e w6 ⟨v6, rfl, hown6, hb6⟩
    simp only [HM2.out] at hown6
    obtain ⟨A5, c5, rfl, hc5, hc52⟩ := slice_of_own hown6
    have HX5 := Lib.hid (Rd.of_own hown6)
    replace hlt := Nat.lt_of_lt_of_le hlt hb6.size
    clear hown6 HPU k0 k1 k2 k3 k4 k5 k6 k7
    replace HK := Lib.hid (HK.out.below hb6 HK.out.lt)
    replace HJ := Lib.hid (HJ.out.below hb6 HJ.out.lt)
    replace HRC := Lib.hid ((HRC.out.below hb6).more hb6.size)
    replace HRD := Lib.hid ((HRD.out.below hb6).more hb6.size)
    replace HX4 := Lib.hid ((HX4.out.below hb6).more hb6.size)
    replace hbw := hbw.trans (hb6.mono hbw.size)
    clear hb6
    by_cases he1 : e1 ≠ 0
    · have q : ((e1 : Int) != 0) = true := by rw [bne_iff_ne]; omega
      clear he1
      go_wp2
      go_ret
      exact ⟨rfl, hbw⟩
    replace he1 : e1 = 0 := by omega
    subst he1
    by_cases he2 : e2 ≠ 0
    · have q : ((e2 : Int) != 0) = true := by rw [bne_iff_ne]; omega
      clear he2
      go_wp2
      go_ret
      exact ⟨rfl, hbw⟩
    replace he2 : e2 = 0 := by omega
    subst he2
    have hm16 : m1 ≤ 16384 := by rw [← HM1.out]; exact putC_len HP1.out
    have HDD := Lib.hid (same_iff HOK.out HOG.out HP1.out HP2.out)
    have HQ := Lib.hid (str_beq HB1.out HB2.out)
    obtain ⟨k0, k1, k2, k3, k4, k5, k6, k7⟩ := cblk_cells HK.out
    obtain ⟨j0, j1, j2, j3, j4, j5, j6, j7⟩ := cblk_cells HJ.out
    have HSM := Lib.hid (samec_any F G s t w6 HRC.out HRD.out HOK.out.2.2.1 HOG.out.2.2.1)
    unfold cagg cblk at HSM
    go_wp2_with fail
    refine HSM.out.mono ?_
    rintro e w7 ⟨rfl, hb7⟩
    replace hlt := Nat.lt_of_lt_of_le hlt hb7.size
    clear HSM k0 k1 k2 k3 k4 k5 k6 k7 j0 j1 j2 j3 j4 j5 j6 j7
    replace HK := Lib.hid (HK.out.below hb7 HK.out.lt)
    replace HRC := Lib.hid ((HRC.out.below hb7).more hb7.size)
    replace HX4 := Lib.hid ((HX4.out.below hb7).more hb7.size)
    replace HX5 := Lib.hid ((HX5.out.below hb7).more hb7.size)
    replace hbw := hbw.trans (hb7.mono hbw.size)
    clear hb7
    obtain ⟨w8, hw8⟩ : ∃ w8 : World, w8 = w7.alloc (.cells (fcells f99 (none, 0)).toArray 55) := ⟨_, rfl⟩
    have hb8 : Below w7.heap.size w7 w8 := by rw [hw8]; exact (Below.refl _ _).alloc (Nat.le_refl _) _
    have hr8 : RdF w8 w8.heap.size (some ⟨w7.heap.size, 0, none⟩) 1 [f99] [(none, 0)] := by
      refine ⟨rfl, rfl, ⟨rfl, .inr ⟨_, rfl, by rw [hw8]; simp, fun j u hu => ?_⟩⟩, fun k f s hf hs => ?_⟩
      · rw [hw8]
        exact cells_new w7 (fcells f99 (none, 0)) 55 j u (by simpa [rcells] using hu)
      · have hk : k = 0 := by have := (List.getElem?_eq_some_iff.1 hf).1; simpa using this
        subst hk
        simp at hf hs
        subst hf hs
        exact ⟨Rd.nil _ _ _ _, by simp [f99], by simp⟩
    have HR8 := Lib.hid hr8
    have HW8 := Lib.hid hw8
    replace hlt := Nat.lt_of_lt_of_le hlt hb8.size
    obtain ⟨k0, k1, k2, k3, k4, k5, k6, k7⟩ := cblk_cells HK.out
    replace HK := Lib.hid (HK.out.below hb8 HK.out.lt)
    replace HRC := Lib.hid ((HRC.out.below hb8).more hb8.size)
    replace HX4 := Lib.hid ((HX4.out.below hb8).more hb8.size)
    replace HX5 := Lib.hid ((HX5.out.below hb8).more hb8.size)
    replace hbw := hbw.trans (hb8.mono hbw.size)
    clear hb8
    have hput := put_c F s V (some ⟨w7.heap.size, 0, none⟩) 1 1 [f99] [(none, 0)] w8 HRC.out HOK.out HR8.out (Nat.le_refl _) (by omega) (by omega) (fun f hf => by simp at hf; subst hf; exact ⟨⟨by simp [f99], by simp [f99]⟩, by simp [f99], by simp [f99], by simp [f99], by simp [f99], by simp [f99]⟩) hvI
    rw [put_99 HP1.out] at hput
    have HPU := Lib.hid hput
    unfold cagg cblk at HPU
    clear hput hw8 hr8
    go_wp2_with fail
    rw [show w7.alloc (.cells #[.int .i64 99, .int .i64 0, .int .u64 1, .slice none 0 0] 55) = w8 from HW8.out.symm]
    refine HPU.out.mono ?_
    rintro e w9 ⟨v9, rfl, hown9, hb9⟩
    obtain ⟨m3, hm3⟩ : ∃ m3, m3 = m1 + 3 := ⟨_, rfl⟩
    have hl9 : (x1 ++ [152, 6, 1]).length = m3 := by rw [List.length_append, HM1.out, hm3]; rfl
    simp only [hl9] at hown9
    obtain ⟨A7, c7, rfl, hc7, hc72⟩ := slice_of_own hown9
    have hx7 := (Rd.of_own hown9).bytes_to (show m1 ≤ m3 by omega)
    have HM3 := Lib.hid hm3
    have htk : (x1 ++ [152, 6, 1]).take m1 = x1 := List.take_left' HM1.out
    rw [htk] at hx7
    have HX7 := Lib.hid hx7
    clear hown9 HPU k0 k1 k2 k3 k4 k5 k6 k7 hx7 hl9 htk hm3
    replace HX4 := Lib.hid ((HX4.out.below hb9).more hb9.size)
    replace HX5 := Lib.hid ((HX5.out.below hb9).more hb9.size)
    replace hbw := hbw.trans (hb9.mono hbw.size)
    clear hb9
    go_upto_region 11 with fail
    refine wp_region_grew (n := 87) (Say [(55, isv (.bool true)), (56, isv (.bool true)), (57, isv (.slice A4 m1 c4)), (58, isv (.string (strOf x1))), (59, isv (.slice A5 m2 c5)), (60, isv (.string (strOf x2))), (61, isv (.bool (decide (x1 = x2)))), (62, isv (.bool (decide (F = G)))), (63, isv (.bool true)), (64, isv (.bool true)), (65, isv (.bool true)), (66, isv (.int .i64 0)), (67, isv (.bool true)), (68, isv (.bool true)), (69, isv (.bool true)), (70, isv (.slice A7 m3 c7)), (71, isv (.int .i64 (m3 : Int))), (72, isv (.slice A4 m1 c4)), (73, isv (.int .i64 (m1 : Int))), (74, isv (.int .i64 (m3 : Int))), (75, isv (.bool true)), (76, isv (.bool true)), (77, isv (.bool true)), (78, isv (.slice A7 m3 c7)), (79, isv (.slice A4 m1 c4)), (80, isv (.int .i64 (m1 : Int))), (81, isv (.slice A7 m1 c7)), (82, isv (.string (strOf x1))), (83, isv (.slice A4 m1 c4)), (84, isv (.string (strOf x1))), (85, isv (.bool true)), (86, isv (.bool true)), (6, isv (.bool true))]) (by kernel_rfl) (by kernel_rfl) rfl ⟨?_, ?_, ?_, ?_, ?_, ?_, ?_, ?_, ?_, ?_, ?_, ?_, ?_, ?_, ?_, ?_, ?_, ?_, ?_, ?_, ?_, ?_, ?_, ?_, ?_, ?_, ?_, ?_, ?_, ?_, ?_, ?_, ?_, trivial⟩ ?_
    · exact owed_move rfl rfl (.inl rfl) fun fr w _ hK => known_out hK 7 (by kernel_rfl)
    · exact owed_move rfl rfl (.inl rfl) fun fr w _ hK => known_in hK 55 (by kernel_rfl)
    · exact owed_movew rfl rfl rfl (by kernel_rfl) (fun _ _ h => h) (.inl rfl) fun fr w _ hK => known_out hK 9 (by kernel_rfl)
    · refine owed_wval _ rfl rfl rfl (by kernel_rfl) (fun _ _ h => h) (fun _ => rfl) fun fr w hC hK => ?_
      have k57 : slot fr 57 = .slice A4 m1 c4 := known_in hK 57 (by kernel_rfl)
      clear hK
      unfold slot at k57
      have sx := run_str (P := Try.prog) w 25 9 5 Try.underlying25 Try.underlying5 Try.underlying9 (HX4.out.below hC) c4
      go_simp
    · exact owed_movew rfl rfl rfl (by kernel_rfl) (fun _ _ h => h) (.inl rfl) fun fr w _ hK => known_out hK 11 (by kernel_rfl)
    · refine owed_wval _ rfl rfl rfl (by kernel_rfl) (fun _ _ h => h) (fun _ => rfl) fun fr w hC hK => ?_
      have k59 : slot fr 59 = .slice A5 m2 c5 := known_in hK 59 (by kernel_rfl)
      clear hK
      unfold slot at k59
      have sx := run_str (P := Try.prog) w 25 9 5 Try.underlying25 Try.underlying5 Try.underlying9 (HX5.out.below hC) c5
      go_simp
    · refine owed_wval _ rfl rfl rfl (by kernel_rfl) (fun _ _ h => h) (fun _ => rfl) fun fr w hC hK => ?_
      have k58 : slot fr 58 = .string (strOf x1) := known_in hK 58 (by kernel_rfl)
      have k60 : slot fr 60 = .string (strOf x2) := known_in hK 60 (by kernel_rfl)
      clear hK
      unfold slot at k58 k60
      have hq := HQ.out
      go_simp
    · exact owed_movew rfl rfl rfl (by kernel_rfl) (fun _ _ h => h) (.inl rfl) fun fr w _ hK => known_out hK 13 (by kernel_rfl)
    · refine owed_wval _ rfl rfl rfl (by kernel_rfl) (fun _ _ h => h) (fun _ => rfl) fun fr w hC hK => ?_
      have k61 : slot fr 61 = .bool (decide (x1 = x2)) := known_in hK 61 (by kernel_rfl)
      have k62 : slot fr 62 = .bool (decide (F = G)) := known_in hK 62 (by kernel_rfl)
      clear hK
      unfold slot at k61 k62
      have hq := HDD.out
      go_simp
    · refine owed_val _ rfl rfl (fun _ => rfl) fun fr w hC hK => ?_
      have k56 : slot fr 56 = .bool true := known_in hK 56 (by kernel_rfl)
      have k63 : slot fr 63 = .bool true := known_in hK 63 (by kernel_rfl)
      clear hK
      unfold slot at k56 k63
      go_simp
    · exact owed_move rfl rfl (.inl rfl) fun fr w _ hK => known_in hK 64 (by kernel_rfl)
    · exact owed_movew rfl rfl rfl (by kernel_rfl) (fun _ _ h => h) (.inl rfl) fun fr w _ hK => known_out hK 15 (by kernel_rfl)
    · refine owed_wval _ rfl rfl rfl (by kernel_rfl) (fun _ _ h => h) (fun _ => rfl) fun fr w hC hK => ?_
      have k66 : slot fr 66 = .int .i64 0 := known_in hK 66 (by kernel_rfl)
      clear hK
      unfold slot at k66
      go_simp
    · refine owed_val _ rfl rfl (fun _ => rfl) fun fr w hC hK => ?_
      have k65 : slot fr 65 = .bool true := known_in hK 65 (by kernel_rfl)
      have k67 : slot fr 67 = .bool true := known_in hK 67 (by kernel_rfl)
      clear hK
      unfold slot at k65 k67
      go_simp
    · exact owed_move rfl rfl (.inl rfl) fun fr w _ hK => known_in hK 68 (by kernel_rfl)
    · exact owed_movew rfl rfl rfl (by kernel_rfl) (fun _ _ h => h) (.inl rfl) fun fr w _ hK => known_out hK 14 (by kernel_rfl)
    · refine owed_wval _ rfl rfl rfl (by kernel_rfl) (fun _ _ h => h) (fun _ => rfl) fun fr w hC hK => ?_
      have k70 : slot fr 70 = .slice A7 m3 c7 := known_in hK 70 (by kernel_rfl)
      clear hK
      unfold slot at k70
      go_simp
    · exact owed_movew rfl rfl rfl (by kernel_rfl) (fun _ _ h => h) (.inl rfl) fun fr w _ hK => known_out hK 9 (by kernel_rfl)
    · refine owed_wval _ rfl rfl rfl (by kernel_rfl) (fun _ _ h => h) (fun _ => rfl) fun fr w hC hK => ?_
      have k72 : slot fr 72 = .slice A4 m1 c4 := known_in hK 72 (by kernel_rfl)
      clear hK
      unfold slot at k72
      go_simp
    · refine owed_wval _ rfl rfl rfl (by kernel_rfl) (fun _ _ h => h) (fun _ => rfl) fun fr w hC hK => ?_
      have k73 : slot fr 73 = .int .i64 (m1 : Int) := known_in hK 73 (by kernel_rfl)
      clear hK
      unfold slot at k73
      have h3 : IntKind.i64.wrap ((m1 : Int) + 3) = (m3 : Int) := by have := HM3.out; rw [IntKind.wrap_i64]; omega
      go_simp
    · refine owed_wval _ rfl rfl rfl (by kernel_rfl) (fun _ _ h => h) (fun _ => rfl) fun fr w hC hK => ?_
      have k71 : slot fr 71 = .int .i64 (m3 : Int) := known_in hK 71 (by kernel_rfl)
      have k74 : slot fr 74 = .int .i64 (m3 : Int) := known_in hK 74 (by kernel_rfl)
      clear hK
      unfold slot at k71 k74
      go_simp
    · refine owed_val _ rfl rfl (fun _ => rfl) fun fr w hC hK => ?_
      have k69 : slot fr 69 = .bool true := known_in hK 69 (by kernel_rfl)
      have k75 : slot fr 75 = .bool true := known_in hK 75 (by kernel_rfl)
      clear hK
      unfold slot at k69 k75
      go_simp
    · exact owed_move rfl rfl (.inl rfl) fun fr w _ hK => known_in hK 76 (by kernel_rfl)
    · exact owed_movew rfl rfl rfl (by kernel_rfl) (fun _ _ h => h) (.inl rfl) fun fr w _ hK => known_out hK 14 (by kernel_rfl)
    · exact owed_movew rfl rfl rfl (by kernel_rfl) (fun _ _ h => h) (.inl rfl) fun fr w _ hK => known_out hK 9 (by kernel_rfl)
    · refine owed_wval _ rfl rfl rfl (by kernel_rfl) (fun _ _ h => h) (fun _ => rfl) fun fr w hC hK => ?_
      have k79 : slot fr 79 = .slice A4 m1 c4 := known_in hK 79 (by kernel_rfl)
      clear hK
      unfold slot at k79
      go_simp
    · refine owed_wval _ rfl rfl rfl (by kernel_rfl) (fun _ _ h => h) (fun _ => rfl) fun fr w hC hK => ?_
      have k78 : slot fr 78 = .slice A7 m3 c7 := known_in hK 78 (by kernel_rfl)
      have k80 : slot fr 80 = .int .i64 (m1 : Int) := known_in hK 80 (by kernel_rfl)
      clear hK
      unfold slot at k78 k80
      have h3 : (m1 : Int) ≤ (c7 : Int) := by have := HM3.out; omega
      go_simp
    · refine owed_wval _ rfl rfl rfl (by kernel_rfl) (fun _ _ h => h) (fun _ => rfl) fun fr w hC hK => ?_
      have k81 : slot fr 81 = .slice A7 m1 c7 := known_in hK 81 (by kernel_rfl)
      clear hK
      unfold slot at k81
      have sx := run_str (P := Try.prog) w 25 9 5 Try.underlying25 Try.underlying5 Try.underlying9 (HX7.out.below hC) c7
      go_simp
    · exact owed_movew rfl rfl rfl (by kernel_rfl) (fun _ _ h => h) (.inl rfl) fun fr w _ hK => known_out hK 9 (by kernel_rfl)
    · refine owed_wval _ rfl rfl rfl (by kernel_rfl) (fun _ _ h => h) (fun _ => rfl) fun fr w hC hK => ?_
      have k83 : slot fr 83 = .slice A4 m1 c4 := known_in hK 83 (by kernel_rfl)
      clear hK
      unfold slot at k83
      have sx := run_str (P := Try.prog) w 25 9 5 Try.underlying25 Try.underlying5 Try.underlying9 (HX4.out.below hC) c4
      go_simp
    · refine owed_wval _ rfl rfl rfl (by kernel_rfl) (fun _ _ h => h) (fun _ => rfl) fun fr w hC hK => ?_
      have k82 : slot fr 82 = .string (strOf x1) := known_in hK 82 (by kernel_rfl)
      have k84 : slot fr 84 = .string (strOf x1) := known_in hK 84 (by kernel_rfl)
      clear hK
      unfold slot at k82 k84
      go_simp
    · refine owed_val _ rfl rfl (fun _ => rfl) fun fr w hC hK => ?_
      have k77 : slot fr 77 = .bool true := known_in hK 77 (by kernel_rfl)
      have k85 : slot fr 85 = .bool true := known_in hK 85 (by kernel_rfl)
      clear hK
      unfold slot at k77 k85
      go_simp
    · exact owed_move rfl rfl (.inr rfl) fun fr w _ hK => known_in hK 86 (by kernel_rfl)
    intro vs w10 hg hgood
    have h6 : vs 6 = .bool true := hgood.2.2.2.2.2.2.2.2.2.2.2.2.2.2.2.2.2.2.2.2.2.2.2.2.2.2.2.2.2.2.2.2.1
    clear hgood
    simp only [putsOf]
    rw [h6]
    go_simp
    go_wp2
    go_ret
    exact ⟨rfl, hbw.trans (Below.mono hg hbw.size)⟩
end Go.Proofs.Ytkagonijkalicaa
