/-
  Plain facts on the landed state: what may be, as it parts that.
-/
import Derived.Test.YtdkjdiamekfbdaaStPlain
namespace Go.Proofs.Ytdkjdiamekfbdaa
namespace St
open Rf (Snp)
open Cm (inR row)

/-- Each greater than the one ahead, and none greater than most. -/
def riseK {α : Type} (f : α → Int) (most : Int) : Int → List α → Bool
  | _, [] => true
  | a, x :: l => (decide (a < f x) && decide (f x ≤ most)) && riseK f most (f x) l
theorem riseK_step {α : Type} {f : α → Int} {most : Int} {l : List α} {j : Nat} {x : α} (h : l[j]? = some x) (a : Int) : riseK f most a (l.drop j) = ((decide (a < f x) && decide (f x ≤ most)) && riseK f most (f x) (l.drop (j + 1))) := by
  have hlt := (List.getElem?_eq_some_iff.1 h).1
  rw [List.drop_eq_getElem_cons hlt, show l[j] = x by rw [List.getElem?_eq_getElem hlt] at h; exact Option.some.inj h, riseK]
def sesAll (x : Ses) : Bool := inR x.seq 0 1048576 && (inR x.code 0 99 && inR x.n 0 1048576)
def opnAll (x : Opn) : Bool := inR x.client 1 8
def mostText (v : Int) : Int := if 3 ≤ v then 16 else 0
def mostQuota (v : Int) : Int := if 3 ≤ v then 64 else 0
def snpAll (v : Int) (x : Snp) : Bool := inR x.set 1 8 && (row x.chunks && ((decide (2 ≤ v) || !x.held) && decide ((x.tag.length : Int) ≤ mostText v)))
/-- The number ahead, as an option or not. -/
def Ahead (p : Option Int) (a : Int) : Prop := 0 ≤ a ∧ (p = none ∧ a = 0 ∨ p = some a)
theorem ahead_rises {p : Option Int} {a x : Int} (h : Ahead p a) : (decide (1 ≤ x) && rises p x) = decide (a < x) := by
  obtain ⟨h0, ⟨rfl, rfl⟩ | rfl⟩ := h
  · unfold rises; simp; omega
  · unfold rises; rw [Bool.eq_iff_iff]; simp; omega
theorem ses_rise : ∀ {l : List Ses} {p : Option Int} {a : Int}, Ahead p a → sesGo p l = (riseK Ses.client 8 a l && l.all sesAll)
  | [], _, _, _ => rfl
  | x :: l, p, a, h => by
    have hr := ahead_rises (x := x.client) h
    rw [sesGo, riseK, List.all_cons]
    by_cases hx : a < x.client
    · have h1 : 0 ≤ x.client := by have := h.1; omega
      rw [ses_rise (l := l) (p := some x.client) (a := x.client) ⟨h1, .inr rfl⟩]
      rw [decide_eq_true hx, Bool.and_eq_true] at hr
      unfold sesOk sesAll inR
      rw [hr.1, hr.2, decide_eq_true hx]
      simp only [Bool.true_and, Bool.and_true]
      rw [Bool.eq_iff_iff]; simp only [Bool.and_eq_true]
      constructor
      · rintro ⟨⟨h1, h2⟩, h3, h4⟩; exact ⟨⟨h1, h3⟩, h2, h4⟩
      · rintro ⟨⟨h1, h3⟩, h2, h4⟩; exact ⟨⟨h1, h2⟩, h3, h4⟩
    · rw [decide_eq_false hx, Bool.and_eq_false_iff] at hr
      rw [decide_eq_false hx]
      simp only [Bool.false_and]
      unfold sesOk inR
      rcases hr with hr | hr <;> rw [hr] <;> simp
theorem opn_rise : ∀ {l : List Opn} {p : Option Int} {a : Int}, Ahead p a → opnGo p l = (riseK Opn.set 8 a l && l.all opnAll)
  | [], _, _, _ => rfl
  | x :: l, p, a, h => by
    have hr := ahead_rises (x := x.set) h
    rw [opnGo, riseK, List.all_cons]
    by_cases hx : a < x.set
    · have h1 : 0 ≤ x.set := by have := h.1; omega
      rw [opn_rise (l := l) (p := some x.set) (a := x.set) ⟨h1, .inr rfl⟩]
      rw [decide_eq_true hx, Bool.and_eq_true] at hr
      unfold opnOk opnAll inR
      rw [hr.1, hr.2, decide_eq_true hx]
      simp only [Bool.true_and, Bool.and_true]
      rw [Bool.eq_iff_iff]; simp only [Bool.and_eq_true]
      constructor
      · rintro ⟨⟨h1, h2⟩, h3, h4⟩; exact ⟨⟨h1, h3⟩, h2, h4⟩
      · rintro ⟨⟨h1, h3⟩, h2, h4⟩; exact ⟨⟨h1, h2⟩, h3, h4⟩
    · rw [decide_eq_false hx, Bool.and_eq_false_iff] at hr
      rw [decide_eq_false hx]
      simp only [Bool.false_and]
      unfold opnOk inR
      rcases hr with hr | hr <;> rw [hr] <;> simp
theorem snap_ok (x : Snp) (m v : Int) : snapOk x m v = (inR x.id 1 m && snpAll v x) := by
  unfold snapOk snpAll mostText inR
  by_cases h3 : 3 ≤ v
  · rw [if_pos h3, decide_eq_true h3, decide_eq_true (show (2 : Int) ≤ v by omega)]
    rw [Bool.eq_iff_iff]
    simp only [Bool.and_eq_true, decide_eq_true_eq, Bool.or_true, Bool.true_or, and_true]
    constructor
    · rintro ⟨h1, h2, h3, _, h5⟩; exact ⟨h2, h3, h1, trivial, by omega⟩
    · rintro ⟨h2, h3, h1, _, h5⟩; exact ⟨h1, h2, h3, trivial, by omega⟩
  · rw [if_neg h3, decide_eq_false h3]
    rw [Bool.eq_iff_iff]
    simp only [Bool.and_eq_true, Bool.or_eq_true, decide_eq_true_eq, Bool.not_eq_true', Bool.or_false]
    constructor
    · rintro ⟨h1, h2, h3, h4, h5, h6⟩; exact ⟨h2, h3, h1, h4.symm, by rw [h6]; decide⟩
    · rintro ⟨h2, h3, h1, h4, h5⟩; exact ⟨h1, h2, h3, h4.symm, by omega, List.length_eq_zero_iff.1 (by omega)⟩
theorem snp_rise {m v : Int} : ∀ {l : List Snp} {p : Option Int} {a : Int}, Ahead p a → snpGo m v p l = (riseK Snp.id m a l && l.all (snpAll v))
  | [], _, _, _ => rfl
  | x :: l, p, a, h => by
    have hr := ahead_rises (x := x.id) h
    rw [snpGo, riseK, List.all_cons, snap_ok]
    by_cases hx : a < x.id
    · have h1 : 0 ≤ x.id := by have := h.1; omega
      rw [snp_rise (l := l) (p := some x.id) (a := x.id) ⟨h1, .inr rfl⟩]
      rw [decide_eq_true hx, Bool.and_eq_true] at hr
      unfold inR
      rw [hr.1, hr.2, decide_eq_true hx]
      simp only [Bool.true_and, Bool.and_true]
      rw [Bool.eq_iff_iff]; simp only [Bool.and_eq_true]
      constructor
      · rintro ⟨⟨h1, h2⟩, h3, h4⟩; exact ⟨⟨h1, h3⟩, h2, h4⟩
      · rintro ⟨⟨h1, h3⟩, h2, h4⟩; exact ⟨⟨h1, h2⟩, h3, h4⟩
    · rw [decide_eq_false hx, Bool.and_eq_false_iff] at hr
      rw [decide_eq_false hx]
      simp only [Bool.false_and]
      unfold inR
      rcases hr with hr | hr <;> rw [hr] <;> simp
def numS (s : Sta) (v : Int) : Bool := inR s.version 1 3 && (inR s.next 1 1048576 && (inR s.keep 0 8 && inR s.quota 0 (mostQuota v)))
def sesS (l : List Ses) : Bool := riseK Ses.client 8 0 l && l.all sesAll
def opnS (l : List Opn) : Bool := riseK Opn.set 8 0 l && l.all opnAll
def snpS (s : Sta) (v : Int) : Bool := decide (s.snaps.length ≤ 16) && (riseK Snp.id (IntKind.i64.wrap (s.next - 1)) 0 s.snaps && s.snaps.all (snpAll v))
theorem ok_parts (s : Sta) (v : Int) : okS s v = (numS s v && (sesS s.sess && (opnS s.opens && snpS s v))) := by
  have h0 : Ahead none 0 := ⟨by decide, .inl ⟨rfl, rfl⟩⟩
  unfold okS headOk sesS opnS snpS
  rw [ses_rise h0, opn_rise h0, snp_rise h0]
  have hq : (inR s.quota 0 64 && (decide (s.quota = 0) || decide (3 ≤ v))) = inR s.quota 0 (mostQuota v) := by
    unfold inR mostQuota
    by_cases h3 : 3 ≤ v
    · rw [if_pos h3, decide_eq_true h3, Bool.or_true, Bool.and_true]
    · rw [if_neg h3, decide_eq_false h3, Bool.or_false, Bool.eq_iff_iff]; simp; omega
  unfold numS
  rw [← hq]
  simp only [Bool.and_assoc]
  rw [Bool.eq_iff_iff]; simp only [Bool.and_eq_true]
  constructor
  · rintro ⟨h1, h2, h3, h4, h5, h6, h7, h8, h9, h10, h11, h12⟩; exact ⟨h1, h2, h3, h4, h5, h7, h8, h9, h10, h6, h11, h12⟩
  · rintro ⟨h1, h2, h3, h4, h5, h7, h8, h9, h10, h6, h11, h12⟩; exact ⟨h1, h2, h3, h4, h5, h6, h7, h8, h9, h10, h11, h12⟩
theorem may_parts (s : Sta) (v : Int) : mayS s v = if !inR v 1 3 then 1 else if numS s v && (sesS s.sess && (opnS s.opens && snpS s v)) then 0 else 6 := by
  unfold mayS; rw [ok_parts]
theorem any_place {α : Type} (p : α → Bool) (l : List α) : decide (0 ≤ place p l) = l.any p := by
  unfold place
  cases h : l.findIdx? p with
  | none =>
    rw [List.findIdx?_eq_none_iff] at h
    rw [decide_eq_false (by decide)]
    symm
    rw [List.any_eq_false]
    intro x hx
    rw [h x hx]; decide
  | some i =>
    rw [decide_eq_true (by simp)]
    symm
    obtain ⟨h1, h2, _⟩ := List.findIdx?_eq_some_iff_getElem.1 h
    rw [List.any_eq_true]
    exact ⟨_, List.getElem_mem h1, h2⟩
theorem all_any {α : Type} (p : α → Bool) (l : List α) : (!l.any fun x => !p x) = l.all p := by
  induction l with
  | nil => rfl
  | cons x l ih => rw [List.any_cons, List.all_cons, ← ih]; cases p x <;> simp
end St
end Go.Proofs.Ytdkjdiamekfbdaa
