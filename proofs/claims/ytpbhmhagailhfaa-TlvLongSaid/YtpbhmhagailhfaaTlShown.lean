/-
  The walk of the laws' head: the document's example.
-/
import Derived.Test.YtpbhmhagailhfaaTlProg
namespace Go.Proofs.Ytpbhmhagailhfaa
open Go.RowKit
open Tl (Fel may putRow takeRow)

theorem rdf_new (w : World) (l : List Fel) (S : List (Option Addr × Nat)) (t : TypeId) (hS : S.length = l.length) (hb : ∀ (k : Nat) (f : Fel) (s : Option Addr × Nat), l[k]? = some f → S[k]? = some s → Rd w w.heap.size 1 s.1 f.b.length (bvs f.b) ∧ f.b.length ≤ s.2 ∧ s.2 ≤ 9223372036854775807) :
    RdF (w.alloc (.cells (rcells l S).toArray t)) (w.heap.size + 1) (some ⟨w.heap.size, 0, none⟩) l.length l S := by
  refine ⟨rfl, hS, ⟨rcells_len l S hS, .inr ⟨_, rfl, by simp, fun j u hu => ?_⟩⟩, fun k f s hf hs => ?_⟩
  · have hadd : (⟨w.heap.size, 0, none⟩ : Addr).add j = ⟨w.heap.size, j, none⟩ := by unfold Addr.add; split <;> simp_all
    rw [hadd, cell_of_row (w.alloc (.cells (rcells l S).toArray t)) w.heap.size j (rcells l S).toArray t (0, 0) (heap_alloc_new w _)]
    simpa using hu
  · obtain ⟨h1, h2, h3⟩ := hb k f s hf hs
    exact ⟨(h1.alloc (Nat.le_refl _) _).more (by omega), h2, h3⟩

set_option maxHeartbeats 1000000 in
set_option maxRecDepth 100000 in
theorem tshown_any (w : World) : Calls Try.prog 9 #[] w fun e w' => e = .returned (.bool true) ∧ Below w.heap.size w w' := by
  obtain ⟨l, hl⟩ : ∃ l : List Fel, l = [⟨1, 0, 5, []⟩, ⟨2, 2, 0, [7, 7]⟩] := ⟨_, rfl⟩
  obtain ⟨S, hS⟩ : ∃ S : List (Option Addr × Nat), S = [(none, 0), (some ⟨w.heap.size, 0, none⟩, 2)] := ⟨_, rfl⟩
  have hput : putRow l = ([8, 5, 18, 2, 7, 7], 0) := by rw [hl]; decide
  obtain ⟨w1, hw1⟩ : ∃ w1 : World, w1 = w.alloc (.cells #[.int .u8 7, .int .u8 7] 5) := ⟨_, rfl⟩
  have hr1 : Rd w1 w1.heap.size 1 (some ⟨w.heap.size, 0, none⟩) 2 (bvs [7, 7]) := by
    rw [hw1]
    have := rd_new w [.int .u8 7, .int .u8 7] 5
    simpa [bvs, bv] using this
  have hrow : RdF (w1.alloc (.cells (rcells l S).toArray 39)) (w1.heap.size + 1) (some ⟨w1.heap.size, 0, none⟩) l.length l S := by
    refine rdf_new w1 l S _ (by rw [hl, hS]; rfl) fun k f s hf hs => ?_
    rw [hl] at hf
    rw [hS] at hs
    match k, hf, hs with
    | 0, hf, hs => simp at hf hs; subst hf hs; exact ⟨Rd.nil _ _ _ _, by simp, by simp⟩
    | 1, hf, hs => simp at hf hs; subst hf hs; exact ⟨hr1, by simp, by simp⟩
    | k + 2, hf, hs => simp at hf
  obtain ⟨w2, hw2⟩ : ∃ w2 : World, w2 = w1.alloc (.cells (rcells l S).toArray 39) := ⟨_, rfl⟩
  rw [← hw2] at hrow
  have hcells : (rcells l S).toArray = #[.int .i64 1, .int .i64 0, .int .u64 5, .slice none 0 0, .int .i64 2, .int .i64 2, .int .u64 0, .slice (some ⟨w.heap.size, 0, none⟩) 2 2] := by rw [hl, hS]; rfl
  have hb2 : Below w.heap.size w w2 := by rw [hw2, hw1]; exact ((Below.refl _ _).alloc (Nat.le_refl _) _).alloc (by simp) _
  have hs2 : w2.heap.size = w1.heap.size + 1 := by rw [hw2]; simp
  have hs1 : w1.heap.size = w.heap.size + 1 := by rw [hw1]; simp
  rw [← hs2] at hrow
  have hok : ∀ f ∈ l, Fok f := by
    rw [hl]
    intro f hf
    simp at hf
    rcases hf with rfl | rfl
    · exact ⟨⟨by decide, by simp⟩, by simp⟩
    · exact ⟨⟨by decide, by simp⟩, by simp⟩
  rw [show l.length = 2 by rw [hl]; rfl, hs1] at hrow
  have hcall := put_row _ 2 2 l S w2 hrow (Nat.le_refl _) (by omega) (by omega) hok
  rw [hput] at hcall
  have HC := Lib.hid hcall
  have HW := Lib.hid (show w2 = (w.alloc (.cells #[.int .u8 7, .int .u8 7] 5)).alloc (.cells #[.int .i64 1, .int .i64 0, .int .u64 5, .slice none 0 0, .int .i64 2, .int .i64 2, .int .u64 0, .slice (some ⟨w.heap.size, 0, none⟩) 2 2] 39) by rw [hw2, hcells, hw1])
  clear hcall hok hrow hcells hput hl hS hw1 hw2 hr1 hs1
  go_enter Try.func9, Try.ntmps9
  go_wp2_with fail
  rw [← HW.out]
  refine HC.out.mono ?_
  rintro e w3 ⟨v3, rfl, hown3, hb3⟩
  rw [show ([8, 5, 18, 2, 7, 7] : List Nat).length = 6 from rfl] at hown3
  obtain ⟨A3, c3, rfl, _, _⟩ := slice_of_own hown3
  have hbw3 := hb2.trans (hb3.mono hb2.size)
  have hr3 := Rd.of_own hown3
  have s1 := run_str (P := Try.prog) w3 23 9 5 Try.underlying23 Try.underlying5 Try.underlying9 hr3 c3
  have r2 : Rd (w3.alloc (.cells #[.int .u8 8, .int .u8 5, .int .u8 18, .int .u8 2, .int .u8 7, .int .u8 7] 5)) (w3.heap.size + 1) 1 (some ⟨w3.heap.size, 0, none⟩) 6 (bvs [8, 5, 18, 2, 7, 7]) := by
    have := rd_new w3 [.int .u8 8, .int .u8 5, .int .u8 18, .int .u8 2, .int .u8 7, .int .u8 7] 5
    simpa [bvs, bv] using this
  have s2 := run_str (P := Try.prog) _ 23 9 5 Try.underlying23 Try.underlying5 Try.underlying9 r2 6
  clear hown3 hr3 r2
  go_wp2
  go_ret
  exact ⟨rfl, hbw3.alloc hbw3.size _⟩
end Go.Proofs.Ytpbhmhagailhfaa
