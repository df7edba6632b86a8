/-
  The walks of the landed command.fields: two closures that lay fields down, one behind the other, onto a row that they share.
-/
import Derived.Test.YtkagonijkalicaaCmPut
import Derived.Test.YtkagonijkalicaaCmTakeP
import Derived.Test.YtkagonijkalicaaMgI
set_option linter.unusedVariables false
set_option linter.unusedSimpArgs false
namespace Go.Proofs.Ytkagonijkalicaa
open Go.RowKit
open Cm (Cmd row numF numsF chunkF textF fieldsC chunksB row_mem)
open Tl (Fel)

theorem post_end0 {P : Program} {fn : Func} {R : Ending → World → Prop} {a : Act} {w : World} (hr : fn.results = #[]) (hd : a.defers = []) (hR : R (.returned (.tuple #[])) w) : bodyPost P fn R .normal a w := by
  refine ⟨hd, .tuple #[], ?_, hR⟩
  simp [results, hr]
def byteF (i : Int) (bs : List Nat) : List Fel := if bs = [] then [] else [⟨i, 2, 0, bs⟩]
/-- A row of fields of the call's own, kept in the cell gl, that grows; another block gc that stays. -/
structure PF (base : Nat) (w : World) (gl gc : Nat) (tc : TypeId) (cc : Array Value) (v : Value) (m : Nat) (F : List Fel) (T : List (Option Addr × Nat)) : Prop where
  own : w.ownsRow base 55 4 v m (rcells F T)
  lie : LieO w gl v.ownBlock F T
  hF : F.length = m
  hT : T.length = m
  kl : Blk w gl 40 #[v]
  kc : Blk w gc tc cc
  nl : v.ownBlock = none ∨ v.ownBlock ≠ some gl
  nc : v.ownBlock = none ∨ v.ownBlock ≠ some gc
  ncl : gc ≠ gl
  bl : base ≤ gl

section
variable {base gl gc m : Nat} {tc : TypeId} {cc : Array Value} {v : Value} {F : List Fel} {T : List (Option Addr × Nat)} {w w' : World}
theorem PF.mono (h : PF base w gl gc tc cc v m F T) (hb : Below w.heap.size w w') : PF base w' gl gc tc cc v m F T :=
  ⟨own_below h.own hb, h.lie.below hb, h.hF, h.hT, h.kl.below hb h.kl.lt, h.kc.below hb h.kc.lt, h.nl, h.nc, h.ncl, h.bl⟩
theorem PF.size (h : PF base w gl gc tc cc v m F T) : base ≤ w.heap.size := Nat.le_of_lt (Nat.lt_of_le_of_lt h.bl h.kl.lt)
theorem PF.push {w2 : World} {g' cap H : Nat} {f : Fel} {s : Option Addr × Nat} {o : Obj} (h : PF base w gl gc tc cc v m F T)
    (h1 : Rd w w.heap.size 1 s.1 f.b.length (bvs f.b)) (h2 : f.b.length ≤ s.2) (h3 : s.2 ≤ 9223372036854775807) (h4 : f.b.length = 0 ∨ ∀ ad : Addr, s.1 = some ad → ad.block ≠ gl ∧ some ad.block ≠ v.ownBlock)
    (hown : w2.ownsRow base 55 4 (.slice (some ⟨g', 0, none⟩) (m + 1) cap) (m + 1) (rcells F T ++ fcells f s)) (hg : (w.alloc o).grownBy w2 v.ownBlock) (hat : v.ownBlock = some g' ∨ g' = H) (hH : H = w.heap.size + 1) :
    PF base (w2.setCell ⟨gl, 0, none⟩ (.slice (some ⟨g', 0, none⟩) (m + 1) cap)) gl gc tc cc (.slice (some ⟨g', 0, none⟩) (m + 1) cap) (m + 1) (F ++ [f]) (T ++ [s]) ∧ Below base w (w2.setCell ⟨gl, 0, none⟩ (.slice (some ⟨g', 0, none⟩) (m + 1) cap)) ∧ Blk w2 gl 40 #[v] := by
  have hne : ∀ k, k < w.heap.size → (v.ownBlock = none ∨ v.ownBlock ≠ some k) → k ≠ g' := fun k hk hkg e => by
    rcases hat with e' | e'
    · rcases hkg with hkg | hkg
      · rw [hkg] at e'; cases e'
      · exact hkg (by rw [e', e])
    · omega
  have hkeep : ∀ {k : Nat} {t : TypeId} {cs : Array Value}, Blk w k t cs → (v.ownBlock = none ∨ v.ownBlock ≠ some k) → Blk w2 k t cs := fun {k t cs} hk hkg =>
    (hg.block k (by simp; have := hk.lt; omega) (fun e => by
      rcases hkg with hkg | hkg
      · rw [hkg] at e; cases e
      · exact hkg e.symm)).trans (hk.alloc _)
  have hlg := hne gl h.kl.lt h.nl
  have hcg := hne gc h.kc.lt h.nc
  have hsz := h.size
  have hgc := grown_cell w2 gl 0 (.slice (some ⟨g', 0, none⟩) (m + 1) cap)
  have hb2 : Below base w w2 := ((Below.refl _ _).alloc hsz _).grown hg (by simp; omega) (fun k hk => (h.own.lt k hk).1)
  refine ⟨⟨?_, ?_, by simp [h.hF], by simp [h.hT], ?_, ?_, .inr ?_, .inr ?_, h.ncl, h.bl⟩, hb2.grown hgc (Nat.le_trans hsz hb2.size) (fun k hk => by injection hk with hk; have := h.bl; omega), hkeep h.kl h.nl⟩
  · rw [rcells_app _ _ _ _ (by rw [h.hT, h.hF]), rcells_one]
    exact hown.kept hgc (.inr (by simp [Value.ownBlock]; exact fun e => hlg e.symm))
  · have h5 := (h.lie.snoc (by rw [h.hT, h.hF]) h1 h2 h3 h4).rerow hg hat hH
    exact h5.grown hgc (.inl rfl)
  · have h5 := (hkeep h.kl h.nl).put 0 (.slice (some ⟨g', 0, none⟩) (m + 1) cap)
    simpa using h5
  · exact (hkeep h.kc h.nc).far (by simpa using h.ncl) _
  · simp [Value.ownBlock]; exact fun e => hlg e.symm
  · simp [Value.ownBlock]; exact fun e => hcg e.symm
end

set_option maxHeartbeats 2000000 in
set_option maxRecDepth 100000 in
theorem number_c (base gl gc m : Nat) (tc : TypeId) (cc : Array Value) (v : Value) (F : List Fel) (T : List (Option Addr × Nat)) (w : World) (h : PF base w gl gc tc cc v m F T) (hm : m ≤ 7) (i x : Int) (h0 : 0 ≤ x) (h1 : x ≤ 1048577) :
    Calls Try.prog 67 #[.int .i64 i, .int .i64 x, .pointer (some ⟨gl, 0, none⟩)] w fun e w' => e = .returned (.tuple #[]) ∧ ∃ v' m' T', m' ≤ m + 1 ∧ PF base w' gl gc tc cc v' m' (F ++ numF i x) T' ∧ Below base w w' := by
  obtain ⟨i0, hi, hz0, hz1, hz2⟩ := info_parts field_info
  obtain ⟨A, co, rfl, hc1, hc2⟩ := slice_of_own h.own
  have HF := Lib.hid h
  have hsz := h.size
  have c0 := h.kl.cell 0
  have z0 := h.kl.frozen 0
  simp at c0
  clear h
  by_cases hx0 : x = 0
  · subst hx0
    have HN := Lib.hid (show F ++ numF i 0 = F by simp [numF])
    go_enter Try.func67, Try.ntmps67
    go_wp2
    refine post_end0 rfl rfl ?_
    refine ⟨rfl, ?_⟩
    exact ⟨_, m, T, by omega, by rw [HN.out]; exact HF.out, Below.refl _ _⟩
  · obtain ⟨k, rfl⟩ : ∃ k : Nat, x = (k : Int) := ⟨x.toNat, by omega⟩
    have q : ((k : Int) != 0) = true := by rw [bne_iff_ne]; exact hx0
    have HN := Lib.hid (show F ++ numF i (k : Int) = F ++ [⟨i, 0, k, []⟩] by unfold numF; rw [if_neg hx0]; rfl)
    have t14 : IntKind.u64.wrap (k : Int) = (k : Int) := by rw [IntKind.wrap_u64]; omega
    clear hx0
    go_enter Try.func67, Try.ntmps67
    go_wp2_with (at_builtin; refine wpList_append_lies _ rfl (.tmp 7) (.tmp 12) 40 rfl base 55 i0 (.agg #[.int .i64 0, .int .i64 0, .int .u64 0, .slice none 0 0]) 4 48 Try.underlying40 hi hz0 hz1 hz2 rfl (by decide) _ m _ rfl (HF.out.own.alloc _) ⟨w.heap.size, 0, none⟩ 1 1 (fcells ⟨i, 0, k, []⟩ (none, 0)) rfl rfl (cells4_new _ _ _ _ _ _) (few_one _ _ _ _ _ _) (by decide) (by unfold maxLen; omega) (by omega) (by simp; omega) (w.heap.size + 1) (by simp) ?_)
    intro g2 cap w2 hown2 hgrow2 hat2 hlt2
    have hp := HF.out.push (f := ⟨i, 0, k, []⟩) (s := (none, 0)) (Rd.nil _ _ _ _) (Nat.le_refl _) (by simp) (.inl rfl) hown2 hgrow2 hat2 rfl
    have HP := Lib.hid hp
    have z2 := hp.2.2.frozen 0
    have c2 := hp.2.2.cell 0
    simp at c2
    clear hp hown2 hgrow2 hat2 hlt2 c0 z0
    go_wp2
    refine post_end0 rfl rfl ?_
    exact ⟨rfl, _, m + 1, _, by omega, by rw [HN.out]; exact HP.out.1, HP.out.2.1⟩

set_option maxHeartbeats 2000000 in
set_option maxRecDepth 100000 in
theorem text_c (base gl gc m : Nat) (tc : TypeId) (cc : Array Value) (v : Value) (F : List Fel) (T : List (Option Addr × Nat)) (w : World) (h : PF base w gl gc tc cc v m F T) (hm : m ≤ 7) (i : Int) (A1 : Option Addr) (n c1 : Nat) (bs : List Nat) (hr : Rd w w.heap.size 1 A1 n (bvs bs)) (hnc : n ≤ c1) (hmax : c1 ≤ 9223372036854775807)
    (hl : n = 0 ∨ ∀ ad : Addr, A1 = some ad → ad.block ≠ gl ∧ some ad.block ≠ v.ownBlock) :
    Calls Try.prog 68 #[.int .i64 i, .slice A1 n c1, .pointer (some ⟨gl, 0, none⟩)] w fun e w' => e = .returned (.tuple #[]) ∧ ∃ v' m' T', m' ≤ m + 1 ∧ PF base w' gl gc tc cc v' m' (F ++ byteF i bs) T' ∧ Below base w w' := by
  obtain ⟨i0, hi, hz0, hz1, hz2⟩ := info_parts field_info
  obtain ⟨A, co, rfl, hc1, hc2⟩ := slice_of_own h.own
  have hlen : bs.length = n := by have := hr.1; rw [bvs_len] at this; omega
  have HF := Lib.hid h
  have HR := Lib.hid hr
  have HL := Lib.hid hl
  have hsz := h.size
  have c0 := h.kl.cell 0
  have z0 := h.kl.frozen 0
  simp at c0
  clear h hr hl
  by_cases hx0 : bs = []
  · subst hx0
    obtain rfl : n = 0 := by simpa using hlen.symm
    have HN := Lib.hid (show F ++ byteF i [] = F by unfold byteF; rw [if_pos rfl, List.append_nil])
    clear hlen
    go_enter Try.func68, Try.ntmps68
    go_wp2
    refine post_end0 rfl rfl ?_
    refine ⟨rfl, ?_⟩
    exact ⟨_, m, by omega, ⟨T, by rw [HN.out]; exact HF.out⟩, Below.refl _ _⟩
  · have q : 0 < n := by rw [← hlen]; exact List.length_pos_iff.2 hx0
    have HN := Lib.hid (show F ++ byteF i bs = F ++ [⟨i, 2, 0, bs⟩] by unfold byteF; rw [if_neg hx0])
    have HLN := Lib.hid hlen
    clear hx0 hlen
    go_enter Try.func68, Try.ntmps68
    go_wp2_with (at_builtin; refine wpList_append_lies _ rfl (.tmp 8) (.tmp 12) 40 rfl base 55 i0 (.agg #[.int .i64 0, .int .i64 0, .int .u64 0, .slice none 0 0]) 4 48 Try.underlying40 hi hz0 hz1 hz2 rfl (by decide) _ m _ rfl (HF.out.own.alloc _) ⟨w.heap.size, 0, none⟩ 1 1 [.int .i64 i, .int .i64 2, .int .u64 0, .slice A1 n c1] rfl rfl (cells4_new _ _ _ _ _ _) (few_one _ _ _ _ _ _) (by decide) (by unfold maxLen; omega) (by omega) (by simp; omega) (w.heap.size + 1) (by simp) ?_)
    intro g2 cap w2 hown2 hgrow2 hat2 hlt2
    have hp := HF.out.push (f := ⟨i, 2, 0, bs⟩) (s := (A1, c1)) (by rw [HLN.out]; exact HR.out) (by rw [HLN.out]; exact hnc) hmax (by rw [HLN.out]; exact HL.out) (by rw [show fcells ⟨i, 2, 0, bs⟩ (A1, c1) = [.int .i64 i, .int .i64 2, .int .u64 0, .slice A1 n c1] by unfold fcells; rw [HLN.out]; rfl]; exact hown2) hgrow2 hat2 rfl
    have HP := Lib.hid hp
    have z2 := hp.2.2.frozen 0
    have c2 := hp.2.2.cell 0
    simp at c2
    clear hp hown2 hgrow2 hat2 hlt2 c0 z0
    go_wp2
    refine post_end0 rfl rfl ?_
    exact ⟨rfl, _, m + 1, _, by omega, by rw [HN.out]; exact HP.out.1, HP.out.2.1⟩
end Go.Proofs.Ytkagonijkalicaa
