/-
  The walks of the laws' few and short: at most 20 snapshots of 12 chunks, at most 12 numbers.
-/
import Derived.Test.YtcbfcjpmoechlaaRfMem
import Derived.Deep.DeepCutAuto
set_option linter.unusedVariables false
set_option linter.unusedSimpArgs false
namespace Go.Proofs.Ytcbfcjpmoechlaa
open Go.RowKit
open Rf (Snp many)

def cutS (a : Snp) : Snp := { a with chunks := a.chunks.take 12 }
def fewS (l : List Snp) : List Snp := (l.take 20).map cutS
theorem fewS_len (l : List Snp) : (fewS l).length = min 20 l.length := by simp [fewS]
theorem fewS_get {l : List Snp} {j : Nat} {f : Snp} (h : l[j]? = some f) (hj : j < 20) : (fewS l)[j]? = some (cutS f) := by
  unfold fewS
  rw [List.getElem?_map, List.getElem?_take, if_pos hj, h]; rfl
theorem many_map (l : List Snp) : many (l.map cutS) ≤ 12 * l.length := by
  induction l with
  | nil => simp [many]
  | cons a l ih =>
    rw [List.map_cons, Rf.many_cons, List.length_cons]
    have : (cutS a).chunks.length ≤ 12 := by show (a.chunks.take 12).length ≤ 12; rw [List.length_take]; omega
    omega
theorem fewS_many (l : List Snp) : many (fewS l) ≤ 240 := by
  have := many_map (l.take 20)
  rw [List.length_take] at this
  unfold fewS
  omega
theorem fewS_ok {l : List Snp} (h : ∀ a ∈ l, Snok a) : ∀ a ∈ fewS l, Snok a := by
  intro a ha
  obtain ⟨b, hb, rfl⟩ := List.mem_map.1 ha
  obtain ⟨h1, h2, h3, h4⟩ := h b (List.mem_of_mem_take hb)
  exact ⟨h1, h2, fun x hx => h3 x (List.mem_of_mem_take hx), h4⟩
theorem fewS_short {l : List Snp} : ∀ a ∈ fewS l, a.chunks.length ≤ 12 := by
  intro a ha
  obtain ⟨b, hb, rfl⟩ := List.mem_map.1 ha
  show (b.chunks.take 12).length ≤ 12
  rw [List.length_take]; omega

theorem fews_step {w wr w2 : World} {A : Option Addr} {n m j : Nat} {l : List Snp} {S : List (Option Addr × Nat)} {f : Snp} {s : Option Addr × Nat} {o v2 : Value} {cs : List Value} {e : TypeId} {b1 b2 : Obj} (hm : (fewS l).length = m) (h : RdS w w.heap.size A n l S)
    (hlt : j < m) (hj : j < 20) (hf : l[j]? = some f) (hs : S[j]? = some s) (hcs : sncells (cutS f) s = cs) (hb : Below w.heap.size w wr) (hown : wr.ownsRow w.heap.size e 5 o j (pcells sncells ((fewS l).take j) (S.take j)))
    (hown2 : w2.ownsRow w.heap.size e 5 v2 (j + 1) (pcells sncells ((fewS l).take j) (S.take j) ++ cs)) (hg : ((wr.alloc b1).alloc b2).grownBy w2 o.ownBlock) :
    w2.ownsRow w.heap.size e 5 v2 (j + 1) (pcells sncells ((fewS l).take (j + 1)) (S.take (j + 1))) ∧ Below w.heap.size w w2 := by
  have hS := (List.getElem?_eq_some_iff.1 hs).1
  refine ⟨?_, ((hb.alloc hb.size _).alloc (by simp; have := hb.size; omega) _).grown hg (by simp; have := hb.size; omega) fun k hk => (hown.lt k hk).1⟩
  rw [List.take_add_one, List.take_add_one, fewS_get hf hj, hs, pcells_app _ _ _ _ (by rw [List.length_take, List.length_take, hm]; omega)]
  simp only [Option.toList_some]
  rw [pcells_one, hcs]
  exact hown2

theorem fewS_rd {w w' : World} {A : Option Addr} {n : Nat} {l : List Snp} {S : List (Option Addr × Nat)} (h : RdS w w.heap.size A n l S) (hb : Below w.heap.size w w') : InnS w' w.heap.size (fewS l) (S.take 20) := by
  refine ⟨by rw [fewS_len, List.length_take, h.1, h.2.1], fun k f s hf hs => ?_⟩
  have hk : k < 20 := by
    have := (List.getElem?_eq_some_iff.1 hs).1
    rw [List.length_take] at this
    omega
  rw [List.getElem?_take, if_pos hk] at hs
  obtain ⟨g, hg⟩ : ∃ g, l[k]? = some g := ⟨l[k]'(by have := (List.getElem?_eq_some_iff.1 hs).1; have := h.1; have := h.2.1; omega), by simp⟩
  rw [fewS_get hg hk] at hf
  obtain rfl := Option.some.inj hf
  obtain ⟨h1, h2, h3⟩ := h.2.2.2 k g s hg hs
  have e1 : (sninn g).length = g.chunks.length := ivs_len _
  rw [e1] at h1 h2
  show Rd w' w.heap.size 1 s.1 (ivs (g.chunks.take 12)).length (ivs (g.chunks.take 12)) ∧ (ivs (g.chunks.take 12)).length ≤ s.2 ∧ _
  rw [ivs_len]
  have hlen : (g.chunks.take 12).length ≤ g.chunks.length := by rw [List.length_take]; omega
  refine ⟨?_, by omega, h3⟩
  have h4 := (h1.below hb).take hlen
  rw [Nat.mul_one] at h4
  have e : (sninn g).take (g.chunks.take 12).length = ivs (g.chunks.take 12) := by
    unfold sninn ivs
    rw [← List.map_take]
    congr 1
    rw [List.length_take, List.take_eq_take_iff]; omega
  rw [e] at h4
  exact h4

set_option maxHeartbeats 1000000 in
set_option maxRecDepth 100000 in
theorem fews_any (A : Option Addr) (n c : Nat) (l : List Snp) (S : List (Option Addr × Nat)) (w : World) (h : RdS w w.heap.size A n l S) (hnc : n ≤ c) (hmax : c ≤ 9223372036854775807) :
    Calls Try.prog 9 #[.slice A n c] w fun e w' => ∃ v, e = .returned v ∧ NewSnaps w' (fewS l) v ∧ Below w.heap.size w w' := by
  obtain ⟨i0, hi, hz0, hz1, hz2⟩ := info_parts snap_info
  obtain ⟨m, hm⟩ : ∃ m, m = min 20 n := ⟨_, rfl⟩
  have hln := h.1
  have hlen : (fewS l).length = m := by rw [fewS_len, h.1, hm]
  have hm' : m ≤ n ∧ m ≤ 20 ∧ (m < 20 → m = n) := by omega
  have HR := Lib.hid h
  have HL := Lib.hid hlen
  clear h hm hlen hln
  go_enter Try.func9, Try.ntmps9
  go_wp2
  go_loopw [3, 4] (fun o i wr => ∃ j : Nat, j ≤ m ∧ i = .int .i64 (j : Int) ∧ wr.ownsRow w.heap.size 36 5 o j (pcells sncells ((fewS l).take j) (S.take j)) ∧ Below w.heap.size w wr) (fun _ i _ => m - (intOf i).toNat)
  case atStart => exact ⟨0, by omega, rfl, by simpa [pcells] using World.ownsRow_made (e := 36) (size := 5) (base := w.heap.size) w #[] 0 (Nat.le_refl _) (by unfold maxLen; omega) rfl, (Below.refl _ _).alloc (Nat.le_refl _) _⟩
  case round =>
    obtain ⟨j, hj, rfl, hown, hb⟩ := hrel
    have HO := Lib.hid hown
    clear hown
    by_cases hlt : j < m
    · obtain ⟨ad, f, ⟨s1, s2⟩, rfl, hab, hf, hs, g0, g1, g2, g3, g4, hrd, hs1, hs2⟩ := rds_get (HR.out.below hb) (show j < n by omega)
      have hj20 : j < 20 := by omega
      have hsz := hb.size
      simp only at g2 hs1 hs2
      by_cases hc1 : 12 < f.chunks.length
      · have HC := Lib.hid (show sncells (cutS f) (s1, s2) = [.int .i64 f.id, .int .i64 f.set, .slice s1 12 s2, .bool f.held, .string (strOf f.tag)] by
          have : (cutS f).chunks.length = 12 := by show (f.chunks.take 12).length = 12; rw [List.length_take]; omega
          unfold sncells
          rw [this]; rfl)
        have HF := Lib.hid hf
        have HS := Lib.hid hs
        clear hrd hf hs
        go_wp2_with (at_builtin; refine wpList_append_rd _ rfl (.tmp 29) (.tmp 31) 22 rfl w.heap.size 36 i0 (.agg #[.int .i64 0, .int .i64 0, .slice none 0 0, .bool false, .string (strOf [])]) 5 64 Try.underlying22 hi hz0 hz1 hz2 rfl (by decide) _ j _ rfl ((HO.out.alloc _).alloc _) (wr.heap.size + 1 + 1) (some ⟨wr.heap.size + 1, 0, none⟩) 1 1 [.int .i64 f.id, .int .i64 f.set, .slice s1 12 s2, .bool f.held, .string (strOf f.tag)] rfl (by have h0 := rd_cells (wr.alloc (.cells #[.int .i64 f.id, .int .i64 f.set, .slice s1 12 s2, .bool f.held, .string (strOf f.tag)] 36)) [.int .i64 f.id, .int .i64 f.set, .slice s1 12 s2, .bool f.held, .string (strOf f.tag)] 36 (size := 5) (n := 1) rfl; simpa using h0) (by intro u hu; simp at hu; rcases hu with rfl | rfl | rfl | rfl | rfl <;> rfl) (by unfold maxLen; omega) (by omega) (by simp; omega) ?_)
        intro v2 w2 hown2 hg2
        have R := fews_step HL.out HR.out hlt hj20 HF.out HS.out HC.out hb HO.out hown2 hg2
        clear hown2 hg2
        go_wp2
        go_roundw
        case rel => exact ⟨j + 1, by omega, by go_num, R.1, R.2⟩
        case measure => simp [intOf]; omega
      · have HC := Lib.hid (show sncells (cutS f) (s1, s2) = [.int .i64 f.id, .int .i64 f.set, .slice s1 f.chunks.length s2, .bool f.held, .string (strOf f.tag)] by
          have : (cutS f).chunks.length = f.chunks.length := by show (f.chunks.take 12).length = _; rw [List.length_take]; omega
          unfold sncells
          rw [this]; rfl)
        have HF := Lib.hid hf
        have HS := Lib.hid hs
        clear hrd hf hs
        go_wp2_with (at_builtin; refine wpList_append_rd _ rfl (.tmp 29) (.tmp 31) 22 rfl w.heap.size 36 i0 (.agg #[.int .i64 0, .int .i64 0, .slice none 0 0, .bool false, .string (strOf [])]) 5 64 Try.underlying22 hi hz0 hz1 hz2 rfl (by decide) _ j _ rfl ((HO.out.alloc _).alloc _) (wr.heap.size + 1 + 1) (some ⟨wr.heap.size + 1, 0, none⟩) 1 1 [.int .i64 f.id, .int .i64 f.set, .slice s1 f.chunks.length s2, .bool f.held, .string (strOf f.tag)] rfl (by have h0 := rd_cells (wr.alloc (.cells #[.int .i64 f.id, .int .i64 f.set, .slice s1 f.chunks.length s2, .bool f.held, .string (strOf f.tag)] 36)) [.int .i64 f.id, .int .i64 f.set, .slice s1 f.chunks.length s2, .bool f.held, .string (strOf f.tag)] 36 (size := 5) (n := 1) rfl; simpa using h0) (by intro u hu; simp at hu; rcases hu with rfl | rfl | rfl | rfl | rfl <;> rfl) (by unfold maxLen; omega) (by omega) (by simp; omega) ?_)
        intro v2 w2 hown2 hg2
        have R := fews_step HL.out HR.out hlt hj20 HF.out HS.out HC.out hb HO.out hown2 hg2
        clear hown2 hg2
        go_wp2
        go_roundw
        case rel => exact ⟨j + 1, by omega, by go_num, R.1, R.2⟩
        case measure => simp [intOf]; omega
    · obtain rfl : j = m := by omega
      have hsz := hb.size
      have hown := HO.out
      rw [List.take_of_length_le (show (fewS l).length ≤ j by have := HL.out; omega), show S.take j = S.take 20 by rw [List.take_eq_take_iff, HR.out.2.1]; omega] at hown
      have HN := Lib.hid (snaps_of_own hown HL.out (fewS_rd HR.out hb) hsz)
      clear hown
      by_cases hj20 : j < 20
      · have : j = n := hm'.2.2 hj20
        subst this
        go_wp2
        go_ret
        exact ⟨_, rfl, HN.out, hb⟩
      · obtain rfl : j = 20 := by omega
        by_cases hn : n = 20
        · subst hn
          go_wp2
          go_ret
          exact ⟨_, rfl, HN.out, hb⟩
        · have h20 : 20 < n := by omega
          go_wp2
          go_ret
          exact ⟨_, rfl, HN.out, hb⟩

theorem short6_any (A : Option Addr) (n c : Nat) (w : World) (hnc : n ≤ c) (hmax : c ≤ 9223372036854775807) :
    Calls Try.prog 10 #[.slice A n c] w fun e w' => e = .returned (.slice A (min n 12) c) ∧ w = w' := by
  by_cases h : 12 < n
  · have e : min n 12 = 12 := by omega
    have HE := Lib.hid e
    have h3 : (12 : Int) ≤ (c : Int) := by omega
    clear e
    go_enter Try.func10, Try.ntmps10
    go_wp2
    go_ret
    exact ⟨by rw [HE.out]; rfl, rfl⟩
  · have e : min n 12 = n := by omega
    have HE := Lib.hid e
    clear e
    go_enter Try.func10, Try.ntmps10
    go_wp2
    go_ret
    exact ⟨by rw [HE.out]; rfl, rfl⟩
end Go.Proofs.Ytcbfcjpmoechlaa
