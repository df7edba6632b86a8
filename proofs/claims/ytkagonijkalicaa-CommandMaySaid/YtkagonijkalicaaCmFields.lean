/-
  The walk of the reference of layer 5: fields.
-/
import Derived.Test.YtkagonijkalicaaCmMay
import Derived.Test.YtkagonijkalicaaMgF
import Derived.Test.YtkagonijkalicaaStrB
import Derived.Deep.AppendLies
set_option linter.unusedVariables false
set_option linter.unusedSimpArgs false
namespace Go.Proofs.Ytkagonijkalicaa
open Go.RowKit
open Cm (Cmd row numF numsF chunkF textF fieldsC chunksB row_mem)
open Tl (Fel)

/-- Numbers that a command that is laid down has. -/
def N20 (c : Cmd) : Prop := (0 ≤ c.kind ∧ c.kind ≤ 1048577) ∧ (0 ≤ c.client ∧ c.client ≤ 1048577) ∧ (0 ≤ c.seq ∧ c.seq ≤ 1048577) ∧ (0 ≤ c.set ∧ c.set ≤ 1048577) ∧ (0 ≤ c.id ∧ c.id ≤ 1048577) ∧ (0 ≤ c.n ∧ c.n ≤ 1048577)
def numsOf (c : Cmd) : List Int := [c.kind, c.client, c.seq, c.set, c.id, c.n]
def numsTo (l : List Int) : Nat → List Fel
  | 0 => []
  | j + 1 => numsTo l j ++ numF ((j : Int) + 1) (l.getD j 0)
theorem numsTo_six (c : Cmd) : numsTo (numsOf c) 6 = numsF c := by
  simp [numsTo, numsOf, numsF]
theorem numF_len (i x : Int) : (numF i x).length ≤ 1 := by unfold numF; split <;> simp
theorem numsTo_len (l : List Int) : ∀ j, (numsTo l j).length ≤ j
  | 0 => by simp [numsTo]
  | j + 1 => by have := numsTo_len l j; have := numF_len ((j : Int) + 1) (l.getD j 0); rw [numsTo, List.length_append]; omega
theorem N20.mem {c : Cmd} (h : N20 c) : ∀ x ∈ numsOf c, 0 ≤ x ∧ x ≤ 1048577 := by
  obtain ⟨h1, h2, h3, h4, h5, h6⟩ := h
  intro x hx
  simp [numsOf] at hx
  rcases hx with rfl | rfl | rfl | rfl | rfl | rfl <;> assumption

/-- What comes back: a row of fields in memory of the call's own, their bytes elsewhere. -/
def NewFields (w : World) (F : List Fel) (e : Ending) (w' : World) : Prop :=
  ∃ (g m co : Nat) (T : List (Option Addr × Nat)), e = .returned (.slice (some ⟨g, 0, none⟩) m co) ∧ F.length = m ∧ T.length = m ∧ g < w'.heap.size ∧ w'.ownsRow w.heap.size 55 4 (.slice (some ⟨g, 0, none⟩) m co) m (rcells F T) ∧ Lie w' g F T ∧ Below w.heap.size w w'

/-- A row of fields that grows, beside two blocks that stay. -/
structure FS (w wr : World) (gb gl g m co : Nat) (tb tl : TypeId) (cb cl : Array Value) (F : List Fel) (T : List (Option Addr × Nat)) : Prop where
  own : wr.ownsRow w.heap.size 55 4 (.slice (some ⟨g, 0, none⟩) m co) m (rcells F T)
  lie : Lie wr g F T
  hF : F.length = m
  hT : T.length = m
  kb : Blk wr gb tb cb
  kl : Blk wr gl tl cl
  nb : gb ≠ g
  nl : gl ≠ g
  glt : g < wr.heap.size
  below : Below w.heap.size w wr
theorem FS.mono {w wr w' : World} {gb gl g m co : Nat} {tb tl : TypeId} {cb cl : Array Value} {F : List Fel} {T : List (Option Addr × Nat)} (h : FS w wr gb gl g m co tb tl cb cl F T) (hb : Below wr.heap.size wr w') : FS w w' gb gl g m co tb tl cb cl F T :=
  ⟨own_below h.own hb, h.lie.below hb, h.hF, h.hT, h.kb.below hb h.kb.lt, h.kl.below hb h.kl.lt, h.nb, h.nl, Nat.lt_of_lt_of_le h.glt hb.size, h.below.trans (hb.mono h.below.size)⟩
theorem FS.push {w wr w2 : World} {gb gl g m co g' cap H : Nat} {tb tl : TypeId} {cb cl : Array Value} {F : List Fel} {T : List (Option Addr × Nat)} {f : Fel} {s : Option Addr × Nat} {o : Obj} (h : FS w wr gb gl g m co tb tl cb cl F T)
    (h1 : Rd wr wr.heap.size 1 s.1 f.b.length (bvs f.b)) (h2 : f.b.length ≤ s.2) (h3 : s.2 ≤ 9223372036854775807) (h4 : f.b.length = 0 ∨ ∀ ad : Addr, s.1 = some ad → ad.block ≠ g)
    (hown : w2.ownsRow w.heap.size 55 4 (.slice (some ⟨g', 0, none⟩) (m + 1) cap) (m + 1) (rcells F T ++ fcells f s)) (hg : (wr.alloc o).grownBy w2 (Value.slice (some ⟨g, 0, none⟩) m co).ownBlock) (hat : (Value.slice (some ⟨g, 0, none⟩) m co).ownBlock = some g' ∨ g' = H) (hH : H = wr.heap.size + 1) (hlt : g' < w2.heap.size) :
    FS w w2 gb gl g' (m + 1) cap tb tl cb cl (F ++ [f]) (T ++ [s]) := by
  have hat' : some g = some g' ∨ g' = wr.heap.size + 1 := by rw [← hH]; exact hat
  have hne : ∀ k, k < wr.heap.size → k ≠ g → k ≠ g' := fun k hk hkg => by
    rcases hat' with e | e
    · injection e with e; omega
    · omega
  have hkeep : ∀ {k : Nat} {t : TypeId} {cs : Array Value}, Blk wr k t cs → k ≠ g → Blk w2 k t cs := fun {k t cs} hk hkg =>
    (hg.block k (by simp; have := hk.lt; omega) (by simp [Value.ownBlock]; exact hkg)).trans (hk.alloc _)
  refine ⟨?_, ?_, by simp [h.hF], by simp [h.hT], hkeep h.kb h.nb, hkeep h.kl h.nl, hne _ h.kb.lt h.nb, hne _ h.kl.lt h.nl, hlt, ?_⟩
  · rw [rcells_app _ _ _ _ (by rw [h.hT, h.hF]), rcells_one]; exact hown
  · exact (h.lie.snoc (by rw [h.hT, h.hF]) h1 h2 h3 h4).grown hg hat'
  · exact (h.below.alloc h.below.size _).grown hg (by simp; have := h.below.size; omega) (fun k hk => by simp [Value.ownBlock] at hk; rw [← hk]; exact (h.own.lt g (by simp [Value.ownBlock])).1)

set_option maxHeartbeats 4000000 in
set_option maxRecDepth 100000 in
theorem rfields_any (c : Cmd) (s : Option Addr × Nat) (v : Int) (w : World) (h : RdC w w.heap.size c s) (hc : Cok c) (hn : N20 c) (hch : c.chunks = [] ∨ row c.chunks = true) :
    Calls Try.prog 53 #[cagg c s, .int .i64 v] w (NewFields w (fieldsC c v)) := by
  obtain ⟨i0, hi, hz0, hz1, hz2⟩ := info_parts field_info
  obtain ⟨w0, hw0, hk0, hb0, hs0⟩ := box_cmd w c s 24
  obtain ⟨k0, k1, k2, k3, k4, k5, k6, k7⟩ := cblk_cells hk0
  have hsz := strOf_size c.text
  have hl2 := hc.2.2.2.2
  have HTX := Lib.hid hc.2.2.1
  have HRC := Lib.hid h
  have HW := Lib.hid hw0
  have HK := Lib.hid hk0
  have HCH := Lib.hid hch
  have HNM := Lib.hid hn.mem
  clear hw0 hk0 h hc hn hch
  obtain ⟨nums, hnums⟩ : ∃ nums, numsOf c = nums := ⟨_, rfl⟩
  have HNN := Lib.hid hnums
  rw [hnums] at HNM
  obtain ⟨wl, hwl⟩ : ∃ wl : World, wl = (w0.alloc (.cells #[] 55)).alloc (.cells (ivs nums).toArray 3) := ⟨_, rfl⟩
  unfold cagg cblk
  go_enter Try.func53, Try.ntmps53
  go_upto_region 1 with fail
  rw [show w.alloc (.cells #[.int .i64 c.kind, .int .i64 c.client, .int .i64 c.seq, .int .i64 c.set, .int .i64 c.id, .int .i64 c.n, .slice s.1 c.chunks.length s.2, .string (strOf c.text)] 24) = w0 from HW.out.symm]
  go_upto_region 3 with fail
  rw [show ((w0.alloc (.cells #[] 55)).alloc (.cells #[.int .i64 c.kind, .int .i64 c.client, .int .i64 c.seq, .int .i64 c.set, .int .i64 c.id, .int .i64 c.n] 3)) = wl by rw [hwl, ← hnums]; rfl]
  have hbl : Below w0.heap.size w0 wl := by rw [hwl]; exact ((Below.refl _ _).alloc (Nat.le_refl _) _).alloc (by simp) _
  have hfs : FS w wl w.heap.size (w0.heap.size + 1) w0.heap.size 0 0 24 3 (cblk c s) (ivs nums).toArray [] [] := by
    refine ⟨?_, Lie.nil _ _, rfl, rfl, HK.out.below hbl hs0, ?_, Nat.ne_of_lt hs0, by omega, ?_, hb0.trans (hbl.mono (Nat.le_of_lt hs0))⟩
    · rw [hwl]
      exact ((World.ownsRow_made w0 #[] 0 (Nat.le_of_lt hs0) (by unfold maxLen; omega) rfl).alloc _)
    · rw [hwl]
      simpa using Blk.new (w0.alloc (.cells #[] 55)) (ivs nums).toArray 3
    · rw [hwl]; simp; omega
  have HFS := Lib.hid hfs
  have hbw := hfs.below
  clear hwl hbl hfs hnums k0 k1 k2 k3 k4 k5 k6 k7
  go_wp2
  go_loopw [5, 7] (fun o i wr => ∃ (j g m co : Nat) (T : List (Option Addr × Nat)), j ≤ 6 ∧ i = .int .i64 (j : Int) ∧ o = .slice (some ⟨g, 0, none⟩) m co ∧ m ≤ j ∧ FS w wr w.heap.size (w0.heap.size + 1) g m co 24 3 (cblk c s) (ivs nums).toArray (numsTo nums j) T) (fun _ i _ => 6 - (intOf i).toNat)
  case atStart => exact ⟨0, w0.heap.size, 0, 0, [], by omega, rfl, rfl, by omega, HFS.out⟩
  case round =>
    obtain ⟨j, g, m, co, T, hj, rfl, rfl, hmj, hfs⟩ := hrel
    have HF := Lib.hid hfs
    have hsz := hfs.below.size
    clear hfs
    by_cases hlt : j < 6
    · obtain ⟨x, hx⟩ : ∃ x, nums[j]? = some x := by rw [← HNN.out]; exact ⟨(numsOf c)[j]'(by simpa [numsOf] using hlt), by simp⟩
      have hx20 := HNM.out x (List.mem_of_getElem? hx)
      have g0 := (HF.out.kl.cell j).trans (show (ivs nums).toArray[j]? = some (.int .i64 x) by simp [ivs, hx, iv])
      have hnx : numsTo nums (j + 1) = numsTo nums j ++ numF ((j : Int) + 1) x := by rw [numsTo, List.getD_eq_getElem?_getD, hx]; rfl
      have HNX := Lib.hid hnx
      have hadd : (⟨w0.heap.size + 1, 0, none⟩ : Addr).add j = ⟨w0.heap.size + 1, j, none⟩ := by unfold Addr.add; split <;> simp_all
      clear hx hnx
      by_cases hx0 : x = 0
      · subst hx0
        have hn2 : numsTo nums (j + 1) = numsTo nums j := by rw [HNX.out]; simp [numF]
        have HN2 := Lib.hid hn2
        clear hn2
        go_wp2
        go_roundw
        case rel => exact ⟨j + 1, g, m, co, T, by omega, by go_num, rfl, by omega, by rw [HN2.out]; exact HF.out⟩
        case measure => simp [intOf]; omega
      · obtain ⟨k, rfl⟩ : ∃ k : Nat, x = (k : Int) := ⟨x.toNat, by omega⟩
        have q : ((k : Int) != 0) = true := by rw [bne_iff_ne]; exact hx0
        have hn2 : numsTo nums (j + 1) = numsTo nums j ++ [⟨(j : Int) + 1, 0, k, []⟩] := by rw [HNX.out]; unfold numF; rw [if_neg hx0]; rfl
        have HN2 := Lib.hid hn2
        have t14 : IntKind.u64.wrap (k : Int) = (k : Int) := by rw [IntKind.wrap_u64]; omega
        have t15 : IntKind.i64.wrap ((j : Int) + 1) = (j : Int) + 1 := by rw [IntKind.wrap_i64]; omega
        clear hn2 hx0
        go_wp2_with (at_builtin; refine wpList_append_lies _ rfl (.tmp 35) (.tmp 44) 40 rfl w.heap.size 55 i0 (.agg #[.int .i64 0, .int .i64 0, .int .u64 0, .slice none 0 0]) 4 48 Try.underlying40 hi hz0 hz1 hz2 rfl (by decide) _ m _ rfl (HF.out.own.alloc _) ⟨wr.heap.size, 0, none⟩ 1 1 (fcells ⟨(j : Int) + 1, 0, k, []⟩ (none, 0)) rfl rfl (cells4_new _ _ _ _ _ _) (few_one _ _ _ _ _ _) (by decide) (by unfold maxLen; omega) (by omega) (by simp; omega) (wr.heap.size + 1) (by simp) ?_)
        intro g2 cap w2 hown2 hgrow2 hat2 hlt2
        have HF2 := Lib.hid (HF.out.push (f := ⟨(j : Int) + 1, 0, k, []⟩) (s := (none, 0)) (Rd.nil _ _ _ _) (Nat.le_refl _) (by simp) (.inl rfl) hown2 hgrow2 hat2 rfl hlt2)
        clear hown2 hgrow2 hat2 hlt2
        go_wp2
        go_roundw
        case rel => exact ⟨j + 1, g2, m + 1, cap, _, by omega, by go_num, rfl, by omega, by rw [HN2.out]; exact HF2.out⟩
        case measure => simp [intOf]; omega
    · obtain rfl : j = 6 := by omega
      have hfs := HF.out
      have e6 : numsTo nums 6 = numsF c := by rw [← HNN.out, numsTo_six]
      rw [e6] at hfs
      have HF := Lib.hid hfs
      obtain ⟨k0, k1, k2, k3, k4, k5, k6, k7⟩ := cblk_cells hfs.kb
      clear hfs k0 k1 k2 k3 k4 k5
      go_upto_if 49 with fail
      go_cut [5] (fun o wx => ∃ (g m co : Nat) (T : List (Option Addr × Nat)), o = .slice (some ⟨g, 0, none⟩) m co ∧ m ≤ 7 ∧ FS w wx w.heap.size (w0.heap.size + 1) g m co 24 3 (cblk c s) (ivs nums).toArray (numsF c ++ chunkF c) T)
      case first =>
        have hrc := (HRC.out.below HF.out.below).more hsz
        by_cases he : c.chunks = []
        · have q : ¬ 0 < c.chunks.length := by rw [he]; simp
          have hcf : numsF c ++ chunkF c = numsF c := by unfold chunkF; rw [if_pos he, List.append_nil]
          have HCF := Lib.hid hcf
          clear he hcf
          go_wp2
          go_meet
          case rel => exact ⟨g, m, co, T, rfl, by omega, by rw [HCF.out]; exact HF.out⟩
        · have hrow := HCH.out.resolve_left he
          have hp : chunksB c.chunks = (c.chunks.map Int.toNat, 0) := by unfold chunksB; rw [hrow]; rfl
          obtain ⟨_, hr1, hr8⟩ := row_mem hrow
          have hcall := rchunks_any s.1 c.chunks.length s.2 c.chunks wr hrc.1 hrc.2.1 hrc.2.2
          obtain ⟨B, hB⟩ : ∃ B, c.chunks.map Int.toNat = B := ⟨_, rfl⟩
          have hBl : B.length ≤ 8 := by rw [← hB, List.length_map]; exact hr8
          rw [hp, hB] at hcall
          have HCL := Lib.hid hcall
          have q : 0 < c.chunks.length := by omega
          have hcf : numsF c ++ chunkF c = numsF c ++ [⟨7, 2, 0, B⟩] := by unfold chunkF; rw [if_neg he, hp, hB]
          have HCF := Lib.hid hcf
          clear he hcf hrow hp hr1 hr8 hcall hB hrc
          go_wp2_with fail
          refine HCL.out.mono ?_
          rintro e w2 ⟨v1, rfl, hown1, hb1⟩
          obtain ⟨A1, c1, rfl, hc1, hm1⟩ := slice_of_own hown1
          have HF1 := Lib.hid (HF.out.mono hb1)
          have hf1 := HF1.out.below.size
          have HO1 := Lib.hid hown1
          have hat1 := own_at hown1
          clear hown1 hb1 k6 k7
          go_wp2_with (at_builtin; refine wpList_append_lies _ rfl (.tmp 56) (.tmp 59) 40 rfl w.heap.size 55 i0 (.agg #[.int .i64 0, .int .i64 0, .int .u64 0, .slice none 0 0]) 4 48 Try.underlying40 hi hz0 hz1 hz2 rfl (by decide) _ m _ rfl (HF1.out.own.alloc _) ⟨w2.heap.size, 0, none⟩ 1 1 (fcells ⟨7, 2, 0, B⟩ (A1, c1)) rfl rfl (cells4_new _ _ _ _ _ _) (few_one _ _ _ _ _ _) (by decide) (by unfold maxLen; omega) (by omega) (by simp; omega) (w2.heap.size + 1) (by simp) ?_)
          intro g2 cap w3 hown3 hgrow3 hat3 hlt3
          have HF3 := Lib.hid (HF1.out.push (f := ⟨7, 2, 0, B⟩) (s := (A1, c1)) (Rd.of_own HO1.out) hc1 hm1 (.inr fun ad had => by have := hat1 ad had; have := HF.out.glt; omega) hown3 hgrow3 hat3 rfl hlt3)
          clear hown3 hgrow3 hat3 hlt3 hat1
          go_wp2
          go_meet
          case rel => exact ⟨g2, m + 1, cap, _, rfl, by omega, by rw [HCF.out]; exact HF3.out⟩
      case rest =>
        obtain ⟨g, m, co, T, rfl, hm7, hfs⟩ := hcut
        obtain ⟨w2, rfl⟩ : ∃ w2, w2 = wc := ⟨_, rfl⟩
        have HF2 := Lib.hid hfs
        obtain ⟨k0, k1, k2, k3, k4, k5, k6, k7⟩ := cblk_cells hfs.kb
        have hsz2 := hfs.below.size
        clear hfs k0 k1 k2 k3 k4 k5 k6
        by_cases ht : c.text ≠ [] ∧ 3 ≤ v
        · have q : 0 < c.text.length := List.length_pos_iff.2 ht.1
          have h3 := ht.2
          have hff : fieldsC c v = numsF c ++ chunkF c ++ [⟨8, 2, 0, c.text⟩] := by unfold fieldsC textF; rw [if_pos ht, List.append_assoc]
          have HFF := Lib.hid hff
          clear ht hff
          obtain ⟨cap, w4, hrun, hc4, hm4, hb4, hs4, hr4⟩ := conv_text (P := Try.prog) w2 9 25 5 c.text Try.underlying9 Try.underlying25 Try.underlying5 HTX.out (by unfold maxLen; omega)
          have HF4 := Lib.hid (HF2.out.mono hb4)
          have HR4 := Lib.hid hr4
          have hf4 := HF4.out.below.size
          clear hb4 hs4 hr4
          go_wp2_with (at_builtin; refine wpList_append_lies _ rfl (.tmp 69) (.tmp 74) 40 rfl w.heap.size 55 i0 (.agg #[.int .i64 0, .int .i64 0, .int .u64 0, .slice none 0 0]) 4 48 Try.underlying40 hi hz0 hz1 hz2 rfl (by decide) _ m _ rfl (HF4.out.own.alloc _) ⟨w4.heap.size, 0, none⟩ 1 1 (fcells ⟨8, 2, 0, c.text⟩ (some ⟨w2.heap.size, 0, none⟩, cap)) rfl rfl (cells4_new _ _ _ _ _ _) (few_one _ _ _ _ _ _) (by decide) (by unfold maxLen; omega) (by omega) (by simp; omega) (w4.heap.size + 1) (by simp) ?_)
          intro g2 cap2 w5 hown5 hgrow5 hat5 hlt5
          have HF5 := Lib.hid (HF4.out.push (f := ⟨8, 2, 0, c.text⟩) (s := (some ⟨w2.heap.size, 0, none⟩, cap)) HR4.out hc4 hm4 (.inr fun ad had => by injection had with had; rw [← had]; exact Nat.ne_of_gt HF2.out.glt) hown5 hgrow5 hat5 rfl hlt5)
          clear hown5 hgrow5 hat5 hlt5
          go_wp2
          go_ret
          rw [HFF.out]
          exact ⟨g2, m + 1, cap2, _, rfl, HF5.out.hF, HF5.out.hT, HF5.out.glt, HF5.out.own, HF5.out.lie, HF5.out.below⟩
        · have hff : fieldsC c v = numsF c ++ chunkF c := by unfold fieldsC textF; rw [if_neg ht, List.append_nil]
          have HFF := Lib.hid hff
          have q : 3 ≤ v → ¬ 0 < c.text.length := fun h hl => ht ⟨List.length_pos_iff.1 hl, h⟩
          clear ht hff
          by_cases h3 : 3 ≤ v
          · replace q := q h3
            go_wp2
            go_ret
            rw [HFF.out]
            exact ⟨g, m, co, T, rfl, HF2.out.hF, HF2.out.hT, HF2.out.glt, HF2.out.own, HF2.out.lie, HF2.out.below⟩
          · clear q
            go_wp2
            all_goals go_ret
            all_goals
              rw [HFF.out]
              exact ⟨g, m, co, T, rfl, HF2.out.hF, HF2.out.hT, HF2.out.glt, HF2.out.own, HF2.out.lie, HF2.out.below⟩
end Go.Proofs.Ytkagonijkalicaa
