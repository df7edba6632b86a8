/-
  Plain facts for the walks that take a row of fields, and rows of fields whose bytes lie in memory of the call's own.
-/
import Derived.Test.YtpbhmhagailhfaaTlMay
namespace Go.Proofs.Ytpbhmhagailhfaa
open Go.RowKit
open Tl (Fel falls takeGo takeRow fieldOf)
open Tg (ttake tskip okTag okTag_iff ttake_back T4)
open Vi (take take_back)

theorem take_parts {bs : List Nat} {s : Nat} (hb : ∀ c ∈ bs, c < 256) (h : tskip bs = (s, 0)) :
    ∃ num wire at_ x k, ttake bs = ⟨num, wire, at_, 0⟩ ∧ take (bs.drop at_) = (x, k, 0) ∧ num ≤ 1000 ∧ (wire = 0 ∨ wire = 2) ∧ at_ + k ≤ s ∧ s ≤ bs.length ∧ 1 ≤ s ∧ x < 18446744073709551616 ∧
      fieldOf bs = if wire = 0 then ⟨num, 0, x, []⟩ else ⟨num, 2, 0, (bs.take s).drop (at_ + k)⟩ := by
  obtain ⟨h1, h2, _, _, _, _⟩ := Tl.fieldOf_back hb h
  have hs : (tskip bs).1 = s := by rw [h]
  unfold tskip at h
  split at h
  · rename_i he; exact absurd (congrArg Prod.snd h) he
  rename_i he
  obtain ⟨hok, h3, hsl, h10, _⟩ := ttake_back hb (Decidable.not_not.1 he)
  split at h
  · rename_i hx; exact absurd (congrArg Prod.snd h) hx
  rename_i hx
  obtain ⟨num, wire, size, err, hT⟩ : ∃ a b c d, ttake bs = ⟨a, b, c, d⟩ := ⟨_, _, _, _, rfl⟩
  obtain ⟨x, k, ex, hX⟩ : ∃ x k e, take (bs.drop (ttake bs).size) = (x, k, e) := ⟨_, _, _, rfl⟩
  rw [hX, hT] at h
  rw [hX] at hx
  rw [hT] at hok hX he
  simp only [] at h hx hok hX he
  obtain rfl : err = 0 := Decidable.not_not.1 he
  obtain rfl : ex = 0 := Decidable.not_not.1 hx
  have hbd : ∀ c ∈ bs.drop size, c < 256 := fun c hc => hb c (List.mem_of_mem_drop hc)
  obtain ⟨x1, x2, x3, x4⟩ := take_back _ x k hbd hX
  have hokk := okTag_iff.1 hok
  have hwire : wire = 0 ∨ wire = 2 := by omega
  refine ⟨num, wire, size, x, k, hT, hX, by omega, hwire, ?_, h2, h1, x1, ?_⟩
  · by_cases hw : wire = 0
    · rw [if_pos hw] at h; have := congrArg Prod.fst h; simp only at this; omega
    · rw [if_neg hw] at h
      split at h
      · cases h
      split at h
      · cases h
      · have := congrArg Prod.fst h; simp only at this; omega
  · unfold fieldOf
    rw [hs, hT]
    simp only []
    rw [hX]
    rcases hwire with rfl | rfl
    · rfl
    · rfl

/-- Fields taken, and what is taken behind them. -/
def acc (F : List Fel) (r : List Fel × Nat) : List Fel × Nat := if r.2 ≠ 0 then ([], r.2) else (F ++ r.1, 0)
theorem acc_nil (r : List Fel × Nat) (h : r.2 ≠ 0 → r.1 = []) : acc [] r = r := by
  unfold acc
  obtain ⟨a, e⟩ := r
  split
  · rename_i h1; simp only at h h1 ⊢; rw [h h1]
  · rename_i h1; simp at h1; simp [h1]
theorem acc_acc (F G : List Fel) (r : List Fel × Nat) : acc F (acc G r) = acc (F ++ G) r := by
  obtain ⟨a, e⟩ := r
  by_cases h : e = 0
  · subst h; simp [acc]
  · simp [acc, h]
theorem acc_bad {F : List Fel} {e : Nat} (h : e ≠ 0) : acc F ([], e) = ([], e) := by unfold acc; rw [if_pos h]
theorem takeGo_go {k : Nat} {p : Option Fel} {bs : List Nat} {s : Nat} (hs : tskip bs = (s, 0)) (hne : bs ≠ []) (hf : p.any (falls · (fieldOf bs)) = false) :
    takeGo (k + 1) p bs = acc [fieldOf bs] (takeGo k (some (fieldOf bs)) (bs.drop s)) := by
  rw [Tl.takeGo_step hs hne, if_neg (by rw [hf]; decide)]
  unfold acc
  split
  · rfl
  · rfl
theorem takeGo_falls {k : Nat} {p : Option Fel} {bs : List Nat} {s : Nat} (hs : tskip bs = (s, 0)) (hne : bs ≠ []) (hf : p.any (falls · (fieldOf bs)) = true) : takeGo (k + 1) p bs = ([], 5) := by
  rw [Tl.takeGo_step hs hne, if_pos hf]
theorem takeGo_end (k : Nat) (p : Option Fel) : takeGo k p [] = ([], 0) := by cases k <;> rfl

/-- 'b[lo:hi]', the address under one name. -/
theorem run_sub {P : Program} (t e : TypeId) (i : TypeInfo) (size : Nat) (ht : P.underlying t = some (.slice e)) (hi : P.info? e = some i) (hs : i.size = size) (A : Option Addr) (n c lo hh : Nat) (kl kh : IntKind) (h1 : lo ≤ hh) (h2 : hh ≤ c) (w : World) :
    (Instr.sliceAt t (.slice A n c) (some (.int kl (lo : Int))) (some (.int kh (hh : Int))) none).run P w = .ok (.slice (cutAt A c size lo) (hh - lo) (c - lo)) w := by
  have he : P.elem t = e := by simp [Program.elem, ht]
  have ht' : P.underlying t = some (.slice (P.elem t)) := by rw [he]; exact ht
  rw [run_sliceAt_slice w t _ _ _ _ ht', run_slice_lh w t A n c ht' kl kh lo hh (by omega) (by omega) (by omega), he]
  simp [sizeOf, typeInfo, hi, hs, sliced, cutAt, Result.andThen]
theorem Rd.bytes_sub {w : World} {B n lo hh c : Nat} {A : Option Addr} {bs : List Nat} (h : Rd w B 1 A n (bvs bs)) (h1 : lo ≤ hh) (h2 : hh ≤ n) (h3 : n ≤ c) : Rd w B 1 (cutAt A c 1 lo) (hh - lo) (bvs ((bs.take hh).drop lo)) :=
  (h.bytes_to h2).bytes_from h1 (by omega)

theorem own_at {w : World} {base : Nat} {e : TypeId} {size n m c : Nat} {A : Option Addr} {xs : List Value} (h : w.ownsRow base e size (.slice A m c) n xs) : ∀ ad, A = some ad → base ≤ ad.block := by
  rintro ad rfl
  rcases h.2 with ⟨hv, _⟩ | ⟨g, cap, cur, hv, hb, _⟩
  · cases hv
  · cases hv; exact hb
theorem Rd.grown {w w' : World} {B size n : Nat} {A : Option Addr} {xs : List Value} {row : Option Nat} (h : Rd w B size A n xs) (hB : B ≤ w.heap.size) (hg : w.grownBy w' row) (hne : n = 0 ∨ ∀ ad : Addr, A = some ad → some ad.block ≠ row) : Rd w' B size A n xs := by
  obtain ⟨hl, h0 | ⟨ad, rfl, hb, hc⟩⟩ := h
  · exact ⟨hl, .inl h0⟩
  · rcases hne with h0 | hne
    · exact ⟨hl, .inl h0⟩
    refine ⟨hl, .inr ⟨ad, rfl, hb, fun j u hu => ?_⟩⟩
    have hk := hc j u hu
    rw [← hk]
    exact World.cell?_of_block (w := w) (a := ad.add j) (hg.block _ (by rw [add_block]; omega) (by rw [add_block]; exact hne ad rfl))

/-- Where the bytes of a row's fields lie: none of them in block g. -/
def Lie (w : World) (g : Nat) (F : List Fel) (T : List (Option Addr × Nat)) : Prop :=
  ∀ (k : Nat) (f : Fel) (s : Option Addr × Nat), F[k]? = some f → T[k]? = some s → Rd w w.heap.size 1 s.1 f.b.length (bvs f.b) ∧ f.b.length ≤ s.2 ∧ s.2 ≤ 9223372036854775807 ∧ (f.b.length = 0 ∨ ∀ ad : Addr, s.1 = some ad → ad.block ≠ g)
theorem Lie.nil (w : World) (g : Nat) : Lie w g [] [] := fun k f s h => by simp at h
theorem Lie.below {w w' : World} {g : Nat} {F : List Fel} {T : List (Option Addr × Nat)} (h : Lie w g F T) (hb : Below w.heap.size w w') : Lie w' g F T := fun k f s hf hs => by
  obtain ⟨h1, h2, h3, h4⟩ := h k f s hf hs
  exact ⟨(h1.below hb).more hb.size, h2, h3, h4⟩
theorem Lie.snoc {w : World} {g : Nat} {F : List Fel} {T : List (Option Addr × Nat)} (h : Lie w g F T) (hl : T.length = F.length) {f : Fel} {s : Option Addr × Nat} (h1 : Rd w w.heap.size 1 s.1 f.b.length (bvs f.b)) (h2 : f.b.length ≤ s.2) (h3 : s.2 ≤ 9223372036854775807)
    (h4 : f.b.length = 0 ∨ ∀ ad : Addr, s.1 = some ad → ad.block ≠ g) : Lie w g (F ++ [f]) (T ++ [s]) := fun k f' s' hf hs => by
  by_cases hk : k < F.length
  · rw [List.getElem?_append_left hk] at hf
    rw [List.getElem?_append_left (by omega)] at hs
    exact h k f' s' hf hs
  · have hk2 := (List.getElem?_eq_some_iff.1 hf).1
    rw [List.length_append, List.length_singleton] at hk2
    obtain rfl : k = F.length := by omega
    rw [List.getElem?_append_right (Nat.le_refl _), Nat.sub_self] at hf
    rw [List.getElem?_append_right (by omega), hl, Nat.sub_self] at hs
    simp at hf hs
    subst hf hs
    exact ⟨h1, h2, h3, h4⟩
theorem Lie.grown {w w' : World} {g g' : Nat} {F : List Fel} {T : List (Option Addr × Nat)} {o : Obj} (h : Lie w g F T) (hg : (w.alloc o).grownBy w' (some g)) (hat : some g = some g' ∨ g' = w.heap.size + 1) : Lie w' g' F T := fun k f s hf hs => by
  obtain ⟨h1, h2, h3, h4⟩ := h k f s hf hs
  have h5 := (h1.alloc (Nat.le_refl _) o).grown (by simp) hg (h4.imp id fun h4 ad had he => h4 ad had (by injection he))
  have hsz : w.heap.size ≤ w'.heap.size := by have := hg.size; simp at this; omega
  refine ⟨h5.more hsz, h2, h3, ?_⟩
  by_cases h0 : f.b.length = 0
  · exact .inl h0
  · right
    intro ad had
    rcases hat with hat | hat
    · injection hat with hat
      rw [← hat]
      exact (h4.resolve_left h0) ad had
    · rcases h1.2 with hz | ⟨ad', hA, hlt, _⟩
      · exact absurd hz h0
      · rw [had] at hA
        cases hA
        omega
end Go.Proofs.Ytpbhmhagailhfaa
