/-
  The walk of the landed command.fields.
-/
import Derived.Test.YtkagonijkalicaaCmClose
import Derived.Test.YtkagonijkalicaaCmChunk
set_option linter.unusedVariables false
set_option linter.unusedSimpArgs false
namespace Go.Proofs.Ytkagonijkalicaa
open Go.RowKit
open Cm (Cmd row numF numsF chunkF textF fieldsC chunksB row_mem)
open Tl (Fel)

theorem byteF_chunk {c : Cmd} (h : c.chunks = [] ∨ row c.chunks = true) : byteF 7 (chunksB c.chunks).1 = chunkF c := by
  unfold byteF chunkF
  rcases h with h | h
  · rw [h]; rfl
  · obtain ⟨_, h1, _⟩ := row_mem h
    have hne : c.chunks ≠ [] := by intro e; rw [e] at h1; simp at h1
    rw [if_neg hne]
    unfold chunksB
    rw [h]
    simp [hne]
theorem byteF_text {c : Cmd} {v : Int} (h : c.text = [] ∨ 3 ≤ v) : byteF 8 c.text = textF c v := by
  unfold byteF textF
  by_cases ht : c.text = []
  · rw [if_pos ht, if_neg (by simp [ht])]
  · rw [if_neg ht, if_pos ⟨ht, h.resolve_left ht⟩]
theorem fields_eq {c : Cmd} {v : Int} (h : c.chunks = [] ∨ row c.chunks = true) (ht : c.text = [] ∨ 3 ≤ v) :
    (((((((([] ++ numF 1 c.kind) ++ numF 2 c.client) ++ numF 3 c.seq) ++ numF 4 c.set) ++ numF 5 c.id) ++ numF 6 c.n) ++ byteF 7 (chunksB c.chunks).1) ++ byteF 8 c.text) = fieldsC c v := by
  rw [byteF_chunk h, byteF_text ht]
  unfold fieldsC numsF
  simp only [List.append_assoc, List.nil_append]

set_option maxHeartbeats 4000000 in
set_option maxRecDepth 100000 in
theorem fields_c (c : Cmd) (s : Option Addr × Nat) (v : Int) (w : World) (h : RdC w w.heap.size c s) (hc : Cok c) (hp : Puts c) (ht : c.text = [] ∨ 3 ≤ v) : Calls Try.prog 49 #[cagg c s] w (NewFields w (fieldsC c v)) := by
  have hmf : ∀ (fn : Fn) (first cap : Array Value) (w : World), (Instr.makeFunc fn first cap).run Try.prog w = .ok (.func fn first cap) w := fun _ _ _ _ => rfl
  obtain ⟨hn, hch, htx, hki⟩ := hp
  have HFE := Lib.hid (fields_eq (v := v) hch ht)
  obtain ⟨n1, n2, n3, n4, n5, n6⟩ := hn
  obtain ⟨gc, hgc⟩ : ∃ gc, gc = w.heap.size := ⟨_, rfl⟩
  obtain ⟨w0, hw0⟩ : ∃ w0 : World, w0 = (w.alloc (.cells (cblk c s) 24)).alloc (.cells #[.slice none 0 0] 40) := ⟨_, rfl⟩
  have hb0 : Below w.heap.size w w0 := by rw [hw0]; exact ((Below.refl _ _).alloc (Nat.le_refl _) _).alloc (by simp) _
  have hk0 : Blk w0 gc 24 (cblk c s) := by rw [hw0, hgc]; exact (Blk.new _ _ _).alloc _
  have hk1 : Blk w0 (gc + 1) 40 #[.slice none 0 0] := by rw [hw0, hgc]; simpa using Blk.new (w.alloc (.cells (cblk c s) 24)) #[.slice none 0 0] 40
  have hpf : PF w.heap.size w0 (gc + 1) gc 24 (cblk c s) (.slice none 0 0) 0 [] [] := ⟨World.ownsRow_nil _ _ _ _, LieO.nil _ _ _, rfl, rfl, hk1, hk0, .inl rfl, .inl rfl, by omega, by omega⟩
  have HF := Lib.hid hpf
  have HRC := Lib.hid h
  have HW := Lib.hid hw0
  have HTX := Lib.hid hc.2.2.1
  have HCO := Lib.hid hc
  have HCH := Lib.hid hch
  have HG := Lib.hid hgc
  have hsz := strOf_size c.text
  have hcl := hc.2.2.2.1
  obtain ⟨FC, hFC⟩ : ∃ FC, fieldsC c v = FC := ⟨_, rfl⟩
  rw [hFC] at HFE ⊢
  unfold cagg cblk
  go_enter Try.func49, Try.ntmps49
  go_upto_region 4 with fail
  rw [show (w.alloc (.cells #[.int .i64 c.kind, .int .i64 c.client, .int .i64 c.seq, .int .i64 c.set, .int .i64 c.id, .int .i64 c.n, .slice s.1 c.chunks.length s.2, .string (strOf c.text)] 24)).alloc (.cells #[.slice none 0 0] 40) = w0 from HW.out.symm, ← hgc]
  obtain ⟨k0, k1, k2, k3, k4, k5, k6, k7⟩ := cblk_cells hk0
  have hm0 : 0 ≤ 0 := Nat.le_refl _
  clear hw0 hk0 hk1 hpf h hc hch ht hFC hgc HW

  go_wp2_with fail
  refine (number_c w.heap.size (gc + 1) gc _ 24 (cblk c s) _ _ _ w0 HF.out (by omega) 1 c.kind n1.1 n1.2).mono ?_
  rintro _ w1 ⟨rfl, v1, m1, T1, hm1, hpf, hbk⟩
  replace HF := Lib.hid hpf
  replace hb0 := hb0.trans hbk
  clear hpf hbk k0 k1 k2 k3 k4 k5 k6 k7
  obtain ⟨k0, k1, k2, k3, k4, k5, k6, k7⟩ := cblk_cells HF.out.kc
  go_upto_region 5 with fail
  go_wp2_with fail
  refine (number_c w.heap.size (gc + 1) gc _ 24 (cblk c s) _ _ _ w1 HF.out (by omega) 2 c.client n2.1 n2.2).mono ?_
  rintro _ w2 ⟨rfl, v2, m2, T2, hm2, hpf, hbk⟩
  replace HF := Lib.hid hpf
  replace hb0 := hb0.trans hbk
  clear hpf hbk k0 k1 k2 k3 k4 k5 k6 k7
  obtain ⟨k0, k1, k2, k3, k4, k5, k6, k7⟩ := cblk_cells HF.out.kc
  go_upto_region 6 with fail
  go_wp2_with fail
  refine (number_c w.heap.size (gc + 1) gc _ 24 (cblk c s) _ _ _ w2 HF.out (by omega) 3 c.seq n3.1 n3.2).mono ?_
  rintro _ w3 ⟨rfl, v3, m3, T3, hm3, hpf, hbk⟩
  replace HF := Lib.hid hpf
  replace hb0 := hb0.trans hbk
  clear hpf hbk k0 k1 k2 k3 k4 k5 k6 k7
  obtain ⟨k0, k1, k2, k3, k4, k5, k6, k7⟩ := cblk_cells HF.out.kc
  go_upto_region 7 with fail
  go_wp2_with fail
  refine (number_c w.heap.size (gc + 1) gc _ 24 (cblk c s) _ _ _ w3 HF.out (by omega) 4 c.set n4.1 n4.2).mono ?_
  rintro _ w4 ⟨rfl, v4, m4, T4, hm4, hpf, hbk⟩
  replace HF := Lib.hid hpf
  replace hb0 := hb0.trans hbk
  clear hpf hbk k0 k1 k2 k3 k4 k5 k6 k7
  obtain ⟨k0, k1, k2, k3, k4, k5, k6, k7⟩ := cblk_cells HF.out.kc
  go_upto_region 8 with fail
  go_wp2_with fail
  refine (number_c w.heap.size (gc + 1) gc _ 24 (cblk c s) _ _ _ w4 HF.out (by omega) 5 c.id n5.1 n5.2).mono ?_
  rintro _ w5 ⟨rfl, v5, m5, T5, hm5, hpf, hbk⟩
  replace HF := Lib.hid hpf
  replace hb0 := hb0.trans hbk
  clear hpf hbk k0 k1 k2 k3 k4 k5 k6 k7
  obtain ⟨k0, k1, k2, k3, k4, k5, k6, k7⟩ := cblk_cells HF.out.kc
  go_upto_region 9 with fail
  go_wp2_with fail
  refine (number_c w.heap.size (gc + 1) gc _ 24 (cblk c s) _ _ _ w5 HF.out (by omega) 6 c.n n6.1 n6.2).mono ?_
  rintro _ w6 ⟨rfl, v6, m6, T6, hm6, hpf, hbk⟩
  replace HF := Lib.hid hpf
  replace hb0 := hb0.trans hbk
  clear hpf hbk k0 k1 k2 k3 k4 k5 k6 k7
  obtain ⟨k0, k1, k2, k3, k4, k5, k6, k7⟩ := cblk_cells HF.out.kc
  go_upto_region 10 with fail
  have hrc := (HRC.out.below hb0).more hb0.size
  have HCC := Lib.hid (chunks_c s.1 c.chunks.length s.2 c.chunks w6 hrc.1 hrc.2.1 hrc.2.2 hcl HCO.out.2.1)
  obtain ⟨CB, hCB⟩ : ∃ CB, chunksB c.chunks = CB := ⟨_, rfl⟩
  rw [hCB] at HCC HFE
  have hcb8 : CB.1.length ≤ 17000 := by
    rw [← hCB]
    unfold chunksB
    split
    · rename_i hr
      obtain ⟨_, _, h8⟩ := row_mem hr
      simp; omega
    · simp
  clear hrc hCB
  go_wp2_with fail
  refine HCC.out.mono ?_
  rintro _ w7 ⟨u1, rfl, hown1, hb1⟩
  obtain ⟨A1, c1, rfl, hc1, hm1⟩ := slice_of_own hown1
  have hat1 := own_at hown1
  have hs6 := hb1.size
  have hpos : ∀ q, v6.ownBlock = some q → q < w6.heap.size := fun q hq => (HF.out.own.lt q hq).2
  have hgl6 := HF.out.kl.lt
  replace HF := Lib.hid (HF.out.mono hb1)
  replace hb0 := hb0.trans (hb1.mono hb0.size)
  have HO1 := Lib.hid (Rd.of_own hown1)
  have HAT := Lib.hid (show CB.1.length = 0 ∨ ∀ ad : Addr, A1 = some ad → ad.block ≠ gc + 1 ∧ some ad.block ≠ v6.ownBlock from .inr fun ad had => by
    have h1 := hat1 ad had
    exact ⟨by omega, fun e => by have := hpos _ e.symm; omega⟩)
  clear hown1 hat1 hb1 hpos k0 k1 k2 k3 k4 k5 k6 k7
  obtain ⟨k0, k1, k2, k3, k4, k5, k6, k7⟩ := cblk_cells HF.out.kc
  go_wp2_with fail
  refine (text_c w.heap.size (gc + 1) gc _ 24 (cblk c s) _ _ _ w7 HF.out (by omega) 7 A1 CB.1.length c1 CB.1 HO1.out hc1 hm1 HAT.out).mono ?_
  rintro _ w8 ⟨rfl, v7, m7, T7, hm7, hpf, hbk⟩
  replace HF := Lib.hid hpf
  replace hb0 := hb0.trans hbk
  clear hpf hbk k0 k1 k2 k3 k4 k5 k6 k7
  obtain ⟨k0, k1, k2, k3, k4, k5, k6, k7⟩ := cblk_cells HF.out.kc
  go_upto_region 12 with fail
  obtain ⟨cap, w9, hrun, hc9, hm9, hb9, hs9, hr9⟩ := conv_text (P := Try.prog) w8 9 25 5 c.text Try.underlying9 Try.underlying25 Try.underlying5 HTX.out (by unfold maxLen; omega)
  have hpos : ∀ q, v7.ownBlock = some q → q < w8.heap.size := fun q hq => (HF.out.own.lt q hq).2
  have hgl8 := HF.out.kl.lt
  replace HF := Lib.hid (HF.out.mono hb9)
  replace hb0 := hb0.trans (hb9.mono hb0.size)
  have HO9 := Lib.hid hr9
  have HAT9 := Lib.hid (show c.text.length = 0 ∨ ∀ ad : Addr, (some ⟨w8.heap.size, 0, none⟩ : Option Addr) = some ad → ad.block ≠ gc + 1 ∧ some ad.block ≠ v7.ownBlock from .inr fun ad had => by
    injection had with had
    rw [← had]
    exact ⟨by show w8.heap.size ≠ gc + 1; omega, fun e => by have := hpos _ e.symm; simp at this⟩)
  clear hb9 hs9 hr9 hpos
  go_wp2_with fail
  refine (text_c w.heap.size (gc + 1) gc _ 24 (cblk c s) _ _ _ w9 HF.out (by omega) 8 (some ⟨w8.heap.size, 0, none⟩) c.text.length cap c.text HO9.out hc9 hm9 HAT9.out).mono ?_
  rintro _ w10 ⟨rfl, v8, m8, T8, hm8, hpf, hbk⟩
  rw [HFE.out] at hpf
  replace hb0 := hb0.trans hbk
  have c0 := hpf.kl.cell 0
  simp at c0
  have HF := Lib.hid hpf
  have hlen : 1 ≤ m8 := by
    rw [← hpf.hF, ← HFE.out]
    have : numF 1 c.kind = [⟨1, 0, c.kind.toNat, []⟩] := by unfold numF; rw [if_neg (by omega)]
    rw [this]
    simp [List.length_append]
  clear hpf hbk k0 k1 k2 k3 k4 k5 k6 k7 hrun
  obtain ⟨g, co, hv8⟩ : ∃ g co, v8 = .slice (some ⟨g, 0, none⟩) m8 co := by
    rcases HF.out.own.2 with ⟨_, h0⟩ | ⟨g, cap, cur, hv, _⟩
    · omega
    · exact ⟨g, cap, hv⟩
  subst hv8
  go_wp2
  go_ret
  refine ⟨g, m8, co, T8, rfl, HF.out.hF, HF.out.hT, (HF.out.own.lt g rfl).2, HF.out.own, fun k f s hf hs => ?_, hb0⟩
  obtain ⟨r1, r2, r3, r4⟩ := HF.out.lie k f s hf hs
  exact ⟨r1, r2, r3, r4.imp id fun r4 ad had e => (r4 ad had).2 (by rw [e]; rfl)⟩
end Go.Proofs.Ytkagonijkalicaa
