/-
  Numbers in memory: rows of them, and what a call that hands such a row back comes to.
-/
import Derived.Test.YtdkjdiamekfbdaaRow
namespace Go.Proofs.Ytdkjdiamekfbdaa
open Go.RowKit

/-- Numbers as cells. -/
def iv (x : Int) : Value := .int .i64 x
def ivs (l : List Int) : List Value := l.map iv
theorem ivs_len (l : List Int) : (ivs l).length = l.length := by simp [ivs]
theorem ivs_one (l : List Int) : ∀ u ∈ ivs l, u.oneCell' = true := by
  intro u hu
  obtain ⟨c, _, rfl⟩ := List.mem_map.1 hu
  rfl
theorem ivs_app (l m : List Int) : ivs (l ++ m) = ivs l ++ ivs m := by simp [ivs]
theorem int_info : (Try.prog.info? 3).map (fun i => (i.zero, i.size, i.bytes)) = some (some (.int .i64 0), 1, 8) := by kernel_rfl
theorem Rd.int {w : World} {B n : Nat} {A : Option Addr} {l : List Int} (h : Rd w B 1 A n (ivs l)) {k : Nat} (hk : k < n) :
    ∃ (ad : Addr) (x : Int), A = some ad ∧ ad.block < B ∧ l[k]? = some x ∧ w.cell? (ad.add k) = some (.int .i64 x) := by
  obtain ⟨ad, u, hA, hab, hu, hc⟩ := h.get hk
  have hl : k < l.length := by have := h.1; rw [ivs_len] at this; omega
  have e : u = .int .i64 l[k] := by
    have : (ivs l)[k]? = some (iv l[k]) := by simp [ivs, hl]
    rw [this] at hu
    injection hu with hu
    exact hu.symm
  exact ⟨ad, l[k], hA, hab, List.getElem?_eq_getElem hl, by rw [hc, e]⟩
/-- Numbers that an int may hold. -/
def I64 (x : Int) : Prop := -9223372036854775808 ≤ x ∧ x ≤ 9223372036854775807

/-- A value that is a slice of these numbers. -/
def NewNums (w : World) (l : List Int) (v : Value) : Prop := ∃ (A : Option Addr) (n c : Nat), v = .slice A n c ∧ n ≤ c ∧ c ≤ 9223372036854775807 ∧ l.length = n ∧ Rd w w.heap.size 1 A n (ivs l)
theorem NewNums.below {w w' : World} {l : List Int} {v : Value} (h : NewNums w l v) (hb : Below w.heap.size w w') : NewNums w' l v := by
  obtain ⟨A, n, c, h1, h2, h3, h4, h5⟩ := h
  exact ⟨A, n, c, h1, h2, h3, h4, (h5.below hb).more hb.size⟩
theorem nums_of_own {w : World} {base : Nat} {e : TypeId} {v : Value} {l : List Int} (h : w.ownsRow base e 1 v l.length (ivs l)) : NewNums w l v := by
  obtain ⟨A, c, rfl, h1, h2⟩ := slice_of_own h
  exact ⟨A, _, c, rfl, h1, h2, rfl, Rd.of_own h⟩
end Go.Proofs.Ytdkjdiamekfbdaa
