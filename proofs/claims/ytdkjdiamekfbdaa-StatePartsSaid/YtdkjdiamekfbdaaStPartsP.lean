/-
  Plain facts on catalogues without a part, or with one twice.
-/
import Derived.Test.YtdkjdiamekfbdaaStGrowsP
import Derived.Test.YtdkjdiamekfbdaaApp
namespace Go.Proofs.Ytdkjdiamekfbdaa
open Go.RowKit
open Rf (Snp)
open St (Ses Opn Sta mayS okS headOk sesGo opnGo snpGo snapOk sesOk opnOk rises)
open Cm (inR)

theorem rises_none (x : Int) : rises none x = true := rfl
theorem sesGo_iff : ∀ {l : List Ses} {p : Option Int}, sesGo p l = true ↔ (∀ x ∈ l, sesOk x = true) ∧ (∀ x ∈ l, rises p x.client = true) ∧ l.Pairwise (fun a b => a.client < b.client)
  | [], p => by simp [sesGo]
  | x :: l, p => by
    unfold sesGo
    rw [Bool.and_eq_true, Bool.and_eq_true, sesGo_iff (l := l), List.pairwise_cons]
    constructor
    · rintro ⟨⟨h1, h2⟩, h3, h4, h5⟩
      have h4' : ∀ y ∈ l, x.client < y.client := fun y hy => by simpa [rises] using h4 y hy
      refine ⟨fun y hy => ?_, fun y hy => ?_, h4', h5⟩
      · rcases List.mem_cons.1 hy with rfl | hy
        · exact h1
        · exact h3 y hy
      · rcases List.mem_cons.1 hy with rfl | hy
        · exact h2
        · cases p with
          | none => rfl
          | some a =>
            have e1 : a < x.client := by simpa [rises] using h2
            have e2 := h4' y hy
            have e3 : a < y.client := by omega
            simpa [rises] using e3
    · rintro ⟨h1, h2, h3, h4⟩
      exact ⟨⟨h1 x (by simp), h2 x (by simp)⟩, fun y hy => h1 y (by simp [hy]), fun y hy => by simpa [rises] using h3 y hy, h4⟩
theorem opnGo_iff : ∀ {l : List Opn} {p : Option Int}, opnGo p l = true ↔ (∀ x ∈ l, opnOk x = true) ∧ (∀ x ∈ l, rises p x.set = true) ∧ l.Pairwise (fun a b => a.set < b.set)
  | [], p => by simp [opnGo]
  | x :: l, p => by
    unfold opnGo
    rw [Bool.and_eq_true, Bool.and_eq_true, opnGo_iff (l := l), List.pairwise_cons]
    constructor
    · rintro ⟨⟨h1, h2⟩, h3, h4, h5⟩
      have h4' : ∀ y ∈ l, x.set < y.set := fun y hy => by simpa [rises] using h4 y hy
      refine ⟨fun y hy => ?_, fun y hy => ?_, h4', h5⟩
      · rcases List.mem_cons.1 hy with rfl | hy
        · exact h1
        · exact h3 y hy
      · rcases List.mem_cons.1 hy with rfl | hy
        · exact h2
        · cases p with
          | none => rfl
          | some a =>
            have e1 : a < x.set := by simpa [rises] using h2
            have e2 := h4' y hy
            have e3 : a < y.set := by omega
            simpa [rises] using e3
    · rintro ⟨h1, h2, h3, h4⟩
      exact ⟨⟨h1 x (by simp), h2 x (by simp)⟩, fun y hy => h1 y (by simp [hy]), fun y hy => by simpa [rises] using h3 y hy, h4⟩
theorem snpGo_iff {m v : Int} : ∀ {l : List Snp} {p : Option Int}, snpGo m v p l = true ↔ (∀ x ∈ l, snapOk x m v = true) ∧ (∀ x ∈ l, rises p x.id = true) ∧ l.Pairwise (fun a b => a.id < b.id)
  | [], p => by simp [snpGo]
  | x :: l, p => by
    unfold snpGo
    rw [Bool.and_eq_true, Bool.and_eq_true, snpGo_iff (l := l), List.pairwise_cons]
    constructor
    · rintro ⟨⟨h1, h2⟩, h3, h4, h5⟩
      have h4' : ∀ y ∈ l, x.id < y.id := fun y hy => by simpa [rises] using h4 y hy
      refine ⟨fun y hy => ?_, fun y hy => ?_, h4', h5⟩
      · rcases List.mem_cons.1 hy with rfl | hy
        · exact h1
        · exact h3 y hy
      · rcases List.mem_cons.1 hy with rfl | hy
        · exact h2
        · cases p with
          | none => rfl
          | some a =>
            have e1 : a < x.id := by simpa [rises] using h2
            have e2 := h4' y hy
            have e3 : a < y.id := by omega
            simpa [rises] using e3
    · rintro ⟨h1, h2, h3, h4⟩
      exact ⟨⟨h1 x (by simp), h2 x (by simp)⟩, fun y hy => h1 y (by simp [hy]), fun y hy => by simpa [rises] using h3 y hy, h4⟩
/-- Without the i-th. -/
def less1 {α : Type} (l : List α) (i : Nat) : List α := l.take i ++ l.drop (i + 1)
theorem less1_sub {α : Type} (l : List α) (i : Nat) : (less1 l i).Sublist l := by
  have h : (l.take i ++ l.drop (i + 1)).Sublist (l.take i ++ l.drop i) := List.Sublist.append (List.Sublist.refl _) (by rw [← List.drop_drop]; exact List.drop_sublist 1 _)
  rw [List.take_append_drop] at h
  exact h
theorem less1_len {α : Type} {l : List α} {i n : Nat} (hl : l.length = n) (hi : i < n) : (less1 l i).length = i + (n - (i + 1)) := by
  unfold less1
  rw [List.length_append, List.length_take, List.length_drop, hl, Nat.min_eq_left (by omega)]
theorem ses_sub {l l' : List Ses} (h : l'.Sublist l) (hg : sesGo none l = true) : sesGo none l' = true := by
  obtain ⟨h1, _, h3⟩ := sesGo_iff.1 hg
  exact sesGo_iff.2 ⟨fun x hx => h1 x (h.subset hx), fun _ _ => rfl, h3.sublist h⟩
theorem opn_sub {l l' : List Opn} (h : l'.Sublist l) (hg : opnGo none l = true) : opnGo none l' = true := by
  obtain ⟨h1, _, h3⟩ := opnGo_iff.1 hg
  exact opnGo_iff.2 ⟨fun x hx => h1 x (h.subset hx), fun _ _ => rfl, h3.sublist h⟩
theorem snp_sub {m v : Int} {l l' : List Snp} (h : l'.Sublist l) (hg : snpGo m v none l = true) : snpGo m v none l' = true := by
  obtain ⟨h1, _, h3⟩ := snpGo_iff.1 hg
  exact snpGo_iff.2 ⟨fun x hx => h1 x (h.subset hx), fun _ _ => rfl, h3.sublist h⟩
theorem may_sess {s : Sta} {v : Int} {l : List Ses} (hv : inR v 1 3 = true) (h : mayS s v = 0) (hl : l.Sublist s.sess) : mayS { s with sess := l } v = 0 := by
  have h := (may_ok hv).1 h
  refine (may_ok hv).2 ?_
  unfold okS headOk at *
  simp only [Bool.and_eq_true] at *
  exact ⟨h.1, ses_sub hl h.2.1, h.2.2⟩
theorem may_opens {s : Sta} {v : Int} {l : List Opn} (hv : inR v 1 3 = true) (h : mayS s v = 0) (hl : l.Sublist s.opens) : mayS { s with opens := l } v = 0 := by
  have h := (may_ok hv).1 h
  refine (may_ok hv).2 ?_
  unfold okS headOk at *
  simp only [Bool.and_eq_true] at *
  exact ⟨h.1, h.2.1, opn_sub hl h.2.2.1, h.2.2.2⟩
theorem may_snaps {s : Sta} {v : Int} {l : List Snp} (hv : inR v 1 3 = true) (h : mayS s v = 0) (hl : l.Sublist s.snaps) : mayS { s with snaps := l } v = 0 := by
  have h := (may_ok hv).1 h
  refine (may_ok hv).2 ?_
  unfold okS headOk at *
  simp only [Bool.and_eq_true, decide_eq_true_eq] at *
  obtain ⟨⟨h1, h2, h3, h4, h5, h6⟩, h7, h8, h9⟩ := h
  exact ⟨⟨h1, h2, h3, h4, h5, Nat.le_trans hl.length_le h6⟩, h7, h8, snp_sub hl h9⟩
theorem may_twice {s : Sta} {v : Int} {x : Snp} (hv : inR v 1 3 = true) (hx : x ∈ s.snaps) : mayS { s with snaps := s.snaps ++ [x] } v = 6 := by
  have hf : okS { s with snaps := s.snaps ++ [x] } v = false := by
    cases ho : okS { s with snaps := s.snaps ++ [x] } v with
    | false => rfl
    | true =>
      exfalso
      unfold okS at ho
      simp only [Bool.and_eq_true] at ho
      have h3 := (snpGo_iff.1 ho.2.2.2).2.2
      rw [List.pairwise_append] at h3
      have := h3.2.2 x hx x (by simp)
      omega
  unfold mayS
  rw [hv, hf]
  rfl
end Go.Proofs.Ytdkjdiamekfbdaa
