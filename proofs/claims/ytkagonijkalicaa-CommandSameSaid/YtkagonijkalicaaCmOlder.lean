/-
  Plain facts on commands: what was put at a version is taken at each lesser one, and put back.
-/
import Derived.Test.YtkagonijkalicaaCmFacts
set_option linter.unusedVariables false
set_option linter.unusedSimpArgs false
namespace Go.Proofs.Ytkagonijkalicaa
open Go.RowKit
open Cm (Cmd inR inR_iff need needs row row_mem numF numsF chunkF textF fieldsC chunksB unchunk putC takeC mayC mayNum mayChunks mayText foreignC forNum forChunks forText cutN stepC cmdOf known restOf noCmd project)
open Tl (Fel may putRow takeRow flat mayGo fit)
open Fo (Spc top specs check okSpec okField cnt numS bytS)

theorem mayC_zero {c : Cmd} {v : Int} : mayC c v = 0 ↔ inR v 1 3 = true ∧ need c.kind ≠ 0 ∧ need c.kind ≤ v ∧ mayNum c = true ∧ mayChunks c = true ∧ mayText c = true := by
  unfold mayC
  constructor
  · intro h
    split at h
    · cases h
    rename_i h1
    split at h
    · cases h
    rename_i h2
    split at h
    · rename_i h3
      simp only [Bool.and_eq_true] at h3
      refine ⟨?_, fun e => h1 (.inr e), by omega, h3.1, h3.2.1, h3.2.2⟩
      cases hv : inR v 1 3 with
      | true => rfl
      | false => exact absurd (.inl hv) h1
    · cases h
  · rintro ⟨h1, h2, h3, h4, h5, h6⟩
    rw [if_neg (by rw [h1]; simp [h2]), if_neg (by omega), h4, h5, h6]; rfl
theorem foreign_iff {c : Cmd} {v : Int} : foreignC c v = true ↔ inR c.kind 1 99 = true ∧ (need c.kind = 0 ∨ v < need c.kind) ∧ forNum c = true ∧ forChunks c = true ∧ forText c v = true := by
  unfold foreignC
  simp only [Bool.and_eq_true, Bool.or_eq_true, decide_eq_true_eq]
theorem need_pos {k : Int} (h : need k ≠ 0) : 1 ≤ need k := by have := Cm.need_bound k; omega
theorem tag_need {c : Cmd} (h : mayText c = true) (hne : c.text ≠ []) : need c.kind = 3 := by
  unfold mayText at h
  simp only [Bool.or_eq_true, Bool.and_eq_true, decide_eq_true_eq] at h
  rcases h with h | h
  · exact absurd (List.eq_nil_of_length_eq_zero h) hne
  · rw [h.1]; decide
/-- What may be laid down has no text below version 3. -/
theorem text_low {c : Cmd} {v : Int} (h : foreignC c v = true ∨ mayC c v = 0) : c.text = [] ∨ 3 ≤ v := by
  by_cases hne : c.text = []
  · exact .inl hne
  · right
    rcases h with h | h
    · have := (foreign_iff.1 h).2.2.2.2
      unfold forText at this
      simp only [Bool.or_eq_true, Bool.and_eq_true, decide_eq_true_eq] at this
      rcases this with h1 | h1
      · exact absurd (List.eq_nil_of_length_eq_zero h1) hne
      · exact h1.1
    · have h1 := mayC_zero.1 h
      have := tag_need h1.2.2.2.2.2 hne
      omega
theorem puts_for {c : Cmd} (h : mayC c 3 = 0 ∨ ∃ v, mayC c v = 0) : forNum c = true := by
  obtain ⟨v, h⟩ : ∃ v, mayC c v = 0 := h.elim (fun h => ⟨3, h⟩) id
  have hn := (mayC_zero.1 h).2.2.2.1
  unfold mayNum at hn
  simp only [Bool.and_eq_true] at hn
  obtain ⟨a1, a2, a3, a4, a5⟩ := hn
  have g : ∀ {x : Int} {u : Bool} {a b : Int}, needs x u a b = true → 0 ≤ a → b ≤ 1048576 → inR x 0 1048576 = true := fun {x u a b} hh ha hb => by
    unfold needs at hh
    rw [inR_iff]
    split at hh
    · have := inR_iff.1 hh; omega
    · simp at hh; omega
  unfold forNum
  rw [g a1 (by omega) (by omega), g a2 (by omega) (by omega), g a3 (by omega) (by omega), g a4 (by omega) (by omega), g a5 (by split <;> omega) (by split; omega; split <;> omega)]
  rfl
theorem chunks_for {c : Cmd} (h : mayChunks c = true) : forChunks c = true := by
  unfold mayChunks at h
  unfold forChunks
  split at h
  · rw [h, Bool.or_true]
  · rw [h, Bool.true_or]
/-- What may be laid down at a version may be, as its projection, at each lesser one. -/
theorem may_older {c : Cmd} {v w : Int} (hv : inR v 1 3 = true) (hvw : v ≤ w) (h : foreignC c w = true ∨ mayC c w = 0) : foreignC (project c v) v = true ∨ mayC (project c v) v = 0 := by
  have hk : (project c v).kind = c.kind := by unfold project; split <;> rfl
  have hN : forNum (project c v) = forNum c := by unfold project; split <;> rfl
  have hMN : mayNum (project c v) = mayNum c := by unfold project; split <;> rfl
  have hC : forChunks (project c v) = forChunks c := by unfold project; split <;> rfl
  have hMC : mayChunks (project c v) = mayChunks c := by unfold project; split <;> rfl
  have hMT : mayText c = true → mayText (project c v) = true := by
    intro h1; unfold project; split
    · unfold mayText; simp
    · exact h1
  have hT : (3 ≤ v → forText c v = true) → forText (project c v) v = true := by
    intro h1; unfold project; split
    · unfold forText; simp
    · exact h1 (by omega)
  rcases h with h | h
  · obtain ⟨h1, h2, h3, h4, h5⟩ := foreign_iff.1 h
    left
    refine foreign_iff.2 ⟨by rw [hk]; exact h1, by rw [hk]; exact h2.imp id (by omega), by rw [hN]; exact h3, by rw [hC]; exact h4, hT fun h3' => ?_⟩
    unfold forText at h5 ⊢
    simp only [Bool.or_eq_true, Bool.and_eq_true, decide_eq_true_eq] at h5 ⊢
    exact h5.imp id fun h6 => ⟨h3', h6.2⟩
  · obtain ⟨h1, h2, h3, h4, h5, h6⟩ := mayC_zero.1 h
    by_cases hn : need c.kind ≤ v
    · right
      exact mayC_zero.2 ⟨hv, by rw [hk]; exact h2, by rw [hk]; exact hn, by rw [hMN]; exact h4, by rw [hMC]; exact h5, hMT h6⟩
    · left
      have hkk := need_kind h2
      refine foreign_iff.2 ⟨by rw [hk, inR_iff]; omega, by rw [hk]; exact .inr (by omega), by rw [hN]; exact puts_for (.inr ⟨w, h⟩), by rw [hC]; exact chunks_for h5, hT fun h3' => ?_⟩
      have := Cm.need_bound c.kind
      omega
/-- What of a command is new behind a version. -/
def olds (c : Cmd) (v w : Int) : List Fel := if v < 3 then textF c w else []
theorem fields_old {c : Cmd} {v w : Int} (hv : inR v 1 3 = true) (hw : inR w 1 3 = true) (hvw : v ≤ w) : fieldsC c w = fieldsC (project c v) v ++ olds c v w := by
  have h1 := inR_iff.1 hw
  unfold olds project
  by_cases h3 : v < 3
  · rw [if_pos h3, if_pos h3]
    unfold fieldsC
    have e : textF { c with text := [] } v = [] := by unfold textF; rw [if_neg (by simp)]
    rw [e, List.append_nil, List.append_assoc]
    rfl
  · rw [if_neg h3, if_neg h3, List.append_nil, show w = v by omega]
theorem putC_ok {c : Cmd} {l : List Fel} {w : Int} {p : List Nat} : putC c l w = (p, 0) ↔ inR w 1 3 = true ∧ (foreignC c w = true ∨ mayC c w = 0) ∧ (∀ f ∈ l, top 1 w < f.num) ∧ putRow (fieldsC c w ++ l) = (p, 0) := by
  unfold putC
  constructor
  · intro h
    split at h
    · exact absurd (congrArg Prod.snd h) (by simp)
    rename_i h1
    split at h
    · rename_i h2; exact absurd (congrArg Prod.snd h) h2.2
    rename_i h2
    split at h
    · exact absurd (congrArg Prod.snd h) (by simp)
    rename_i h3
    refine ⟨by simpa using h1, ?_, ?_, h⟩
    · cases hf : foreignC c w with
      | true => exact .inl rfl
      | false => exact .inr (Decidable.not_not.1 fun hm => h2 ⟨hf, hm⟩)
    · intro f hf
      have h4 : l.any (fun f => decide (f.num ≤ top 1 w)) = false := by simpa using h3
      rw [List.any_eq_false] at h4
      have := h4 f hf
      simp at this
      omega
  · rintro ⟨h1, h2, h3, h4⟩
    rw [if_neg (by rw [h1]; decide), if_neg (by rintro ⟨a, b⟩; rcases h2 with h2 | h2; rw [h2] at a; cases a; exact b h2), if_neg]
    · exact h4
    · have : l.any (fun f => decide (f.num ≤ top 1 w)) = false := by
        rw [List.any_eq_false]
        intro f hf
        have := h3 f hf
        simp; omega
      rw [this]; decide
theorem puts_of {c : Cmd} {w : Int} (h : foreignC c w = true ∨ mayC c w = 0) : Puts c := h.elim foreign_puts may_puts
theorem putRow_ok {l : List Fel} {p : List Nat} (h : putRow l = (p, 0)) : may l = 0 ∧ p = flat l := by
  unfold putRow at h
  split at h
  · rename_i h1; exact absurd (congrArg Prod.snd h) h1
  · rename_i h1; exact ⟨Decidable.not_not.1 h1, (congrArg Prod.fst h).symm⟩
/-- THE FACT: what was put at a version is taken at each lesser one as its projection, and what stands behind is put back. -/
theorem older {c : Cmd} {l : List Fel} {v w : Int} {p : List Nat} (hv : inR v 1 3 = true) (hvw : v ≤ w) (hc : Cok c) (hl : ∀ f ∈ l, Fok f) (h : putC c l w = (p, 0)) :
    takeC p v = (project c v, olds c v w ++ l, 0) ∧ putC (project c v) (olds c v w ++ l) v = (p, 0) ∧ ∀ b ∈ p, b < 256 := by
  obtain ⟨hw, hm, hr, hput⟩ := putC_ok.1 h
  have hp := puts_of hm
  have hmo := may_older hv hvw hm
  have hpo := puts_of hmo
  have hL : fieldsC c w ++ l = fieldsC (project c v) v ++ (olds c v w ++ l) := by rw [fields_old hv hw hvw, List.append_assoc]
  obtain ⟨hmay, hpf⟩ := putRow_ok hput
  have hwf : ∀ f ∈ fieldsC c w ++ l, f.wf := fun f hf => ((List.mem_append.1 hf).elim (fields_ok hp hc w f) (hl f)).1
  have htk : takeRow p = (fieldsC c w ++ l, 0) := by rw [hpf]; exact (Tl.takeRow_put hwf hmay).1
  have htop : top 1 v ≤ top 1 w := by rw [top_val hv, top_val hw]; split <;> split <;> omega
  have hro : ∀ f ∈ olds c v w ++ l, top 1 v < f.num := by
    intro f hf
    rcases List.mem_append.1 hf with hf | hf
    · unfold olds at hf
      split at hf
      · rename_i h3
        have := textF_mem hf
        rw [top_val hv, if_neg (by omega)]; omega
      · simp at hf
    · have := hr f hf; omega
  have hback : putC (project c v) (olds c v w ++ l) v = (p, 0) := putC_ok.2 ⟨hv, hmo, hro, by rw [← hL]; exact hput⟩
  refine ⟨?_, hback, ?_⟩
  · have hchk : check 1 v (fieldsC (project c v) v ++ (olds c v w ++ l)) = 0 := check_fields hpo hv hro (by rw [← hL]; exact hmay)
    obtain ⟨hk, hrest⟩ := parted hpo.2.1 hv hro
    have hcmd := cmdOf_fields hpo (text_low hmo)
    unfold takeC
    rw [if_neg (by rw [hv]; decide), htk, if_neg (by simp)]
    simp only []
    rw [hL, hchk, if_neg (by simp), hk, hrest, hcmd, hback, if_pos rfl]
  · have := putC_byte (v := w) hc hl
    rw [h] at this
    exact this
theorem put_back {c : Cmd} {l : List Fel} {w : Int} {p : List Nat} (hc : Cok c) (hl : ∀ f ∈ l, Fok f) (h : putC c l w = (p, 0)) : takeC p w = (c, l, 0) := by
  obtain ⟨hw, hm, _, _⟩ := putC_ok.1 h
  have h1 := (older hw (Int.le_refl _) hc hl h).1
  have e1 : project c w = c := by
    unfold project
    split
    · rename_i h3
      rcases text_low hm with h4 | h4
      · rw [← h4]
      · omega
    · rfl
  have e2 : olds c w w = [] := by
    unfold olds
    split
    · rename_i h3
      unfold textF
      rw [if_neg (by omega)]
    · rfl
  rw [e1, e2, List.nil_append] at h1
  exact h1
theorem take_back {b : List Nat} {v : Int} {d : Cmd} {m : List Fel} (h : takeC b v = (d, m, 0)) : putC d m v = (b, 0) := by
  unfold takeC at h
  split at h
  · exact absurd (congrArg (fun r => r.2.2) h) (by simp)
  split at h
  · rename_i h1; exact absurd (congrArg (fun r => r.2.2) h) h1
  split at h
  · rename_i h1; exact absurd (congrArg (fun r => r.2.2) h) h1
  split at h
  · rename_i h1
    obtain rfl : _ = d := congrArg (fun r => r.1) h
    obtain rfl : _ = m := congrArg (fun r => r.2.1) h
    exact h1
  · exact absurd (congrArg (fun r => r.2.2) h) (by simp)
theorem take_no {b : List Nat} {v : Int} (h : (takeC b v).2.2 ≠ 0) : (takeC b v).1 = noCmd ∧ (takeC b v).2.1 = [] := by
  unfold takeC at h ⊢
  split
  · exact ⟨rfl, rfl⟩
  split
  · exact ⟨rfl, rfl⟩
  split
  · exact ⟨rfl, rfl⟩
  split
  · rename_i h1 h2 h3 h4
    rw [if_neg h1, if_neg h2, if_neg h3, if_pos h4] at h
    exact absurd rfl h
  · exact ⟨rfl, rfl⟩
theorem putC_len {c : Cmd} {l : List Fel} {v : Int} {p : List Nat} (h : putC c l v = (p, 0)) : p.length ≤ 16384 := by
  obtain ⟨h1, h2⟩ := putRow_ok (putC_ok.1 h).2.2.2
  rw [h2]
  exact (Tl.may_zero.1 h1).2
end Go.Proofs.Ytkagonijkalicaa
