/-
  Plain facts for the law RefsGone: flags in a block, beside snapshots and numbers.
-/
import Derived.Test.YtcbfcjpmoechlaaRfMem
import Derived.Test.YtcbfcjpmoechlaaRfFacts
import Derived.Laws.OwnMore
set_option linter.unusedVariables false
set_option linter.unusedSimpArgs false
namespace Go.Proofs.Ytcbfcjpmoechlaa
open Go.RowKit
open Rf (Snp cnt)

/-- Flags as cells. -/
def fl (B : List Bool) : Array Value := (B.map Value.bool).toArray
theorem fl_set (B : List Bool) (k : Nat) (b : Bool) : (fl B).setIfInBounds k (.bool b) = fl (B.set k b) := by
  unfold fl
  rw [List.setIfInBounds_toArray, List.map_set]
theorem blk_of_own {w : World} {base g n : Nat} {e : TypeId} {xs : List Value} (h : w.ownsRow base e 1 (.slice (some ⟨g, 0, none⟩) n n) n xs) : Blk w g e xs.toArray := by
  rcases h.2 with ⟨h', _⟩ | ⟨g', cap', cur, h', _, hg, _, _, hcs, htake⟩
  · simp at h'
  · simp only [Value.slice.injEq, Option.some.injEq, Addr.mk.injEq, and_true, true_and] at h'
    obtain ⟨rfl, rfl⟩ := h'
    have : cur.toList = xs := by
      rw [← htake, List.take_of_length_le]
      rw [Array.length_toList, hcs]; omega
    rw [← this]
    exact hg
theorem fl_no_int {w : World} {g : Nat} {t : TypeId} {B : List Bool} (h : Blk w g t (fl B)) {a : Addr} (ha : a.block = g) {k : IntKind} {x : Int} : w.cell? a ≠ some (.int k x) := by
  intro hv
  unfold World.cell? at hv
  rw [ha, show w.heap[g]? = some (.cells (fl B) t (0, 0)) from h] at hv
  simp only [] at hv
  split at hv
  · cases hv
  · unfold fl at hv
    rw [List.getElem?_toArray, List.getElem?_map] at hv
    cases hb : B[a.off]? with
    | none => rw [hb] at hv; cases hv
    | some b => rw [hb] at hv; cases hv
theorem rd_grown {w w' : World} {B size n : Nat} {A : Option Addr} {xs : List Value} {row : Option Nat} (h : Rd w B size A n xs) (hB : B ≤ w.heap.size) (hg : w.grownBy w' row) (hne : n = 0 ∨ ∀ ad : Addr, A = some ad → some ad.block ≠ row) : Rd w' B size A n xs := by
  obtain ⟨hl, h0 | ⟨ad, rfl, hb, hc⟩⟩ := h
  · exact ⟨hl, .inl h0⟩
  · rcases hne with h0 | hne
    · exact ⟨hl, .inl h0⟩
    refine ⟨hl, .inr ⟨ad, rfl, hb, fun j u hu => ?_⟩⟩
    have hk := hc j u hu
    rw [← hk]
    exact World.cell?_of_block (w := w) (a := ad.add j) (hg.block _ (by rw [add_block]; omega) (by rw [add_block]; exact hne ad rfl))
theorem rdn_far {w w' : World} {g n Bd : Nat} {t : TypeId} {B : List Bool} {A : Option Addr} {l : List Int} (hr : Rd w Bd 1 A n (ivs l)) (h : Blk w g t (fl B)) (hB : Bd ≤ w.heap.size) (hg : w.grownBy w' (some g)) : Rd w' Bd 1 A n (ivs l) := by
  refine rd_grown hr hB hg ?_
  by_cases hn : n = 0
  · exact .inl hn
  · right
    rintro ad rfl e
    injection e with e
    obtain ⟨ad', x, hA, _, _, hc⟩ := hr.int (show 0 < n by omega)
    injection hA with hA
    subst hA
    exact fl_no_int h (by rw [add_block]; exact e) hc
theorem rds_far {w w' : World} {g n Bd : Nat} {t : TypeId} {B : List Bool} {A : Option Addr} {l : List Snp} {S : List (Option Addr × Nat)} (hr : RdS w Bd A n l S) (h : Blk w g t (fl B)) (hB : Bd ≤ w.heap.size) (hg : w.grownBy w' (some g)) : RdS w' Bd A n l S := by
  refine ⟨hr.1, hr.2.1, rd_grown hr.2.2.1 hB hg ?_, fun k f s hf hs => ?_⟩
  · by_cases hn : n = 0
    · exact .inl hn
    · right
      rintro ad rfl e
      injection e with e
      obtain ⟨ad', f, s, hA, _, _, _, hc, _⟩ := rds_get hr (show 0 < n by omega)
      injection hA with hA
      subst hA
      exact fl_no_int h (by rw [add_block]; exact e) hc
  · obtain ⟨r1, r2, r3⟩ := hr.2.2.2 k f s hf hs
    refine ⟨?_, r2, r3⟩
    have hl : (sninn f).length = f.chunks.length := ivs_len _
    rw [hl] at r1 ⊢
    exact rdn_far r1 h hB hg
theorem fl_grown (w : World) (g i : Nat) (v : Value) : w.grownBy (w.setCell ⟨g, i, none⟩ v) (some g) :=
  ⟨rfl, rfl, rfl, by simp [World.setCell], fun k _ hk => Below.heap_setCell w ⟨g, i, none⟩ v k (by simpa using hk)⟩
/-- No flag of a chunk that is yet to be freed. -/
theorem flag_off {R : List Snp} {id : Int} {B : List Bool} {k x : Nat} (hx : (Rf.freed R id)[k]? = some (x : Int)) (hB : ∀ c : Nat, B[c]? = some true → cnt R c = 0 ∨ (c : Int) ∈ (Rf.freed R id).take k) (hl : B.length = 65) (h64 : x ≤ 64) : B[x]? = some false := by
  cases e : B[x]? with
  | none => rw [List.getElem?_eq_none_iff] at e; omega
  | some b =>
    cases b with
    | false => rfl
    | true =>
      rcases hB x e with h | h
      · obtain ⟨i, _, _, h1, _⟩ := Rf.freed_mem (List.mem_of_getElem? hx)
        omega
      · obtain ⟨j, hj, hjx⟩ := List.getElem_of_mem h
        rw [List.length_take] at hj
        rw [List.getElem_take] at hjx
        obtain ⟨hk, hkx⟩ := List.getElem?_eq_some_iff.1 hx
        have := List.pairwise_iff_getElem.1 (Rf.freed_rise R id) j k (by omega) hk (by omega)
        omega
theorem flag_put {R : List Snp} {id : Int} {B : List Bool} {k x : Nat} (hx : (Rf.freed R id)[k]? = some (x : Int)) (hB : ∀ c : Nat, B[c]? = some true → cnt R c = 0 ∨ (c : Int) ∈ (Rf.freed R id).take k) :
    ∀ c : Nat, (B.set x true)[c]? = some true → cnt R c = 0 ∨ (c : Int) ∈ (Rf.freed R id).take (k + 1) := by
  intro c hc
  rw [List.take_add_one, hx]
  by_cases e : x = c
  · subst e
    exact .inr (by simp)
  · rw [List.getElem?_set_ne e] at hc
    rcases hB c hc with h | h
    · exact .inl h
    · exact .inr (List.mem_append_left _ h)
theorem flag_done {R : List Snp} {id : Int} {B : List Bool} (hB : ∀ c : Nat, B[c]? = some true → cnt R c = 0 ∨ (c : Int) ∈ Rf.freed R id) : ∀ c : Nat, B[c]? = some true → cnt (Rf.without R id) c = 0 := by
  intro c hc
  rcases hB c hc with h | h
  · have := Rf.cnt_without_le R id c
    omega
  · obtain ⟨_, _, _, _, h2⟩ := Rf.freed_mem h
    exact h2
/-- Snapshots that are left: none has a number of those that went. -/
def Left (F : List Snp) (i : Nat) (R : List Snp) : Prop := ∀ a ∈ R, a ∈ F ∧ ∀ (j : Nat) (b : Snp), j < i → F[j]? = some b → a.id ≠ b.id
theorem Left.step {F R : List Snp} {i : Nat} {a : Snp} (h : Left F i R) (ha : F[i]? = some a) : Left F (i + 1) (Rf.without R a.id) := by
  intro b hb
  obtain ⟨h1, h2⟩ := List.mem_filter.1 hb
  refine ⟨(h b h1).1, fun j d hj hd => ?_⟩
  by_cases e : j = i
  · subst e
    rw [ha] at hd
    obtain rfl := Option.some.inj hd
    simpa [bne_iff_ne] using h2
  · exact (h b h1).2 j d (by omega) hd
theorem Left.none {F R : List Snp} (h : Left F F.length R) : R = [] := by
  cases R with
  | nil => rfl
  | cons a R =>
    obtain ⟨h1, h2⟩ := h a (by simp)
    obtain ⟨j, hj, rfl⟩ := List.getElem_of_mem h1
    exact absurd rfl (h2 j _ hj (List.getElem?_eq_getElem hj))
end Go.Proofs.Ytcbfcjpmoechlaa
