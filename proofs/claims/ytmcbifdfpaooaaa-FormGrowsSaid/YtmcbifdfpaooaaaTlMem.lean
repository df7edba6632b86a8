/-
  Rows of fields in memory: plain facts for walks.
-/
import Derived.Test.YtmcbifdfpaooaaaTlRows
import Derived.Test.YtmcbifdfpaooaaaTlLong
namespace Go.Proofs.Ytmcbifdfpaooaaa
open Go.RowKit
open Tl (Fel)

theorem bel_drewN {B : Nat} {a w : World} (h : Below B a w) (n : Nat) : Below B a (w.drewN n) := h.trans ⟨rfl, rfl, rfl, Nat.le_refl _, fun _ _ => rfl⟩
theorem field_info : (Try.prog.info? 39).map (fun i => (i.zero, i.size, i.bytes)) = some (some (.agg #[.int .i64 0, .int .i64 0, .int .u64 0, .slice none 0 0]), 4, 48) := by kernel_rfl

theorem fcells_one (f : Fel) (s : Option Addr × Nat) : ∀ u ∈ fcells f s, u.oneCell' = true := by
  intro u hu
  simp [fcells] at hu
  rcases hu with rfl | rfl | rfl | rfl <;> rfl
theorem rcells_app : ∀ (l m : List Fel) (S T : List (Option Addr × Nat)), S.length = l.length → rcells (l ++ m) (S ++ T) = rcells l S ++ rcells m T
  | [], _, [], _, _ => by simp [rcells]
  | f :: l, m, s :: S, T, h => by
    simp only [List.cons_append, rcells, List.append_assoc]
    rw [rcells_app l m S T (by simpa using h)]
theorem rcells_one (f : Fel) (s : Option Addr × Nat) : rcells [f] [s] = fcells f s := by simp [rcells]

theorem cells4_new (w : World) (a b c d : Value) (t : TypeId) : ∀ j u, [a, b, c, d][j]? = some u → (w.alloc (.cells #[a, b, c, d] t)).cell? ((⟨w.heap.size, 0, none⟩ : Addr).add j) = some u := by
  intro j u hj
  have hlt := (List.getElem?_eq_some_iff.1 hj).1
  have hadd : (⟨w.heap.size, 0, none⟩ : Addr).add j = ⟨w.heap.size, j, none⟩ := by unfold Addr.add; split <;> simp_all
  rw [hadd, (Blk.new w #[a, b, c, d] t).cell]
  simpa using hj

theorem few_one (x y z : Int) (A : Option Addr) (n c : Nat) : ∀ u ∈ [Value.int .i64 x, .int .i64 y, .int .u64 z, .slice A n c], u.oneCell' = true := by
  intro u hu
  simp at hu
  rcases hu with rfl | rfl | rfl | rfl <;> rfl
theorem rcells_one4 : ∀ (l : List Fel) (S : List (Option Addr × Nat)), ∀ u ∈ rcells l S, u.oneCell' = true
  | [], _, u, h => by simp [rcells] at h
  | _ :: _, [], u, h => by simp [rcells] at h
  | f :: l, s :: S, u, h => by
    rw [rcells] at h
    rcases List.mem_append.1 h with h | h
    · exact fcells_one f s u h
    · exact rcells_one4 l S u h
theorem RdF.of_own {w : World} {base : Nat} {e : TypeId} {n B : Nat} {v : Value} {l : List Fel} {S : List (Option Addr × Nat)} (h : w.ownsRow base e 4 v n (rcells l S)) (hl : l.length = n) (hS : S.length = n) (hB : B ≤ w.heap.size)
    (hb : ∀ (k : Nat) (f : Fel) (s : Option Addr × Nat), l[k]? = some f → S[k]? = some s → Rd w B 1 s.1 f.b.length (bvs f.b) ∧ f.b.length ≤ s.2 ∧ s.2 ≤ 9223372036854775807) :
    ∃ (A : Option Addr) (c : Nat), v = .slice A n c ∧ n ≤ c ∧ c ≤ 9223372036854775807 ∧ RdF w w.heap.size A n l S := by
  obtain ⟨A, c, rfl, h1, h2⟩ := slice_of_own h
  exact ⟨A, c, rfl, h1, h2, hl, hS, Rd.of_own h, fun k f s hf hs => ⟨(hb k f s hf hs).1.more hB, (hb k f s hf hs).2⟩⟩
theorem own_cap {w : World} {base : Nat} {e : TypeId} {size n m c : Nat} {A : Option Addr} {xs : List Value} (h : w.ownsRow base e size (.slice A m c) n xs) : n ≤ c ∧ c ≤ 9223372036854775807 := by
  obtain ⟨A', c', hv, h1, h2⟩ := slice_of_own h
  cases hv
  exact ⟨h1, h2⟩
/-- A value that is a slice of these fields. -/
def NewRow (w : World) (l : List Fel) (v : Value) : Prop := ∃ (A : Option Addr) (n c : Nat) (S : List (Option Addr × Nat)), v = .slice A n c ∧ n ≤ c ∧ c ≤ 9223372036854775807 ∧ RdF w w.heap.size A n l S
theorem NewRow.below {w w' : World} {l : List Fel} {v : Value} (h : NewRow w l v) (hb : Below w.heap.size w w') : NewRow w' l v := by
  obtain ⟨A, n, c, S, h1, h2, h3, h4⟩ := h
  exact ⟨A, n, c, S, h1, h2, h3, (h4.below hb).more hb.size⟩
end Go.Proofs.Ytmcbifdfpaooaaa
