/-
  Plain facts on commands: what was put is taken, also by an older version.
-/
import Derived.Test.YtkagonijkalicaaCmWords
set_option linter.unusedVariables false
set_option linter.unusedSimpArgs false
namespace Go.Proofs.Ytkagonijkalicaa
open Go.RowKit
open Cm (Cmd inR inR_iff need needs row row_mem numF numsF chunkF textF fieldsC chunksB unchunk putC takeC mayC mayNum mayChunks mayText foreignC forNum forChunks forText cutN stepC cmdOf known restOf noCmd project)
open Tl (Fel may putRow takeRow flat mayGo fit)
open Fo (Spc top specs check okSpec okField cnt numS bytS)

/-! ### numbers as fields, and back -/
theorem cutN_nat {x : Int} (h : 0 ≤ x ∧ x ≤ 1048577) : cutN x.toNat = x := by unfold cutN; omega
theorem fold_num {i x : Int} {c c' : Cmd} (h : x = 0 → c = c') (h2 : stepC c ⟨i, 0, x.toNat, []⟩ = c') : (numF i x).foldl stepC c = c' := by
  unfold numF
  split
  · rename_i hx; exact h hx
  · exact h2
theorem row_unchunk {l : List Int} (h : row l = true) : unchunk (l.map Int.toNat) = (l, 0) := by
  have h1 := (row_mem h).1
  have e : (l.map Int.toNat).map (fun c : Nat => (c : Int)) = l := by
    rw [List.map_map]
    conv => rhs; rw [← List.map_id l]
    exact List.map_congr_left fun x hx => by have := h1 x hx; simp; omega
  unfold unchunk
  rw [e, h]; rfl
theorem chunksB_row {l : List Int} (h : row l = true) : chunksB l = (l.map Int.toNat, 0) := by unfold chunksB; rw [h]; rfl
/-- The fields of a command make that command. -/
theorem cmdOf_fields {c : Cmd} (hp : Puts c) {v : Int} (ht : c.text = [] ∨ 3 ≤ v) : cmdOf (fieldsC c v) = c := by
  obtain ⟨⟨h1, h2, h3, h4, h5, h6⟩, hch, _, _⟩ := hp
  unfold cmdOf fieldsC numsF
  simp only [List.foldl_append]
  have e1 : (numF 1 c.kind).foldl stepC noCmd = ({ noCmd with kind := c.kind } : Cmd) := fold_num (fun e => by rw [e]; rfl) (by unfold stepC; rw [if_pos rfl]; simp only []; rw [cutN_nat h1])
  have e2 : (numF 2 c.client).foldl stepC ({ noCmd with kind := c.kind } : Cmd) = ({ noCmd with kind := c.kind, client := c.client } : Cmd) := fold_num (fun e => by rw [e]; rfl) (by unfold stepC; rw [if_neg (by simp), if_pos rfl]; simp only []; rw [cutN_nat h2])
  have e3 : (numF 3 c.seq).foldl stepC ({ noCmd with kind := c.kind, client := c.client } : Cmd) = ({ noCmd with kind := c.kind, client := c.client, seq := c.seq } : Cmd) := fold_num (fun e => by rw [e]; rfl) (by unfold stepC; rw [if_neg (by simp), if_neg (by simp), if_pos rfl]; simp only []; rw [cutN_nat h3])
  have e4 : (numF 4 c.set).foldl stepC ({ noCmd with kind := c.kind, client := c.client, seq := c.seq } : Cmd) = ({ noCmd with kind := c.kind, client := c.client, seq := c.seq, set := c.set } : Cmd) := fold_num (fun e => by rw [e]; rfl) (by unfold stepC; rw [if_neg (by simp), if_neg (by simp), if_neg (by simp), if_pos rfl]; simp only []; rw [cutN_nat h4])
  have e5 : (numF 5 c.id).foldl stepC ({ noCmd with kind := c.kind, client := c.client, seq := c.seq, set := c.set } : Cmd) = ({ noCmd with kind := c.kind, client := c.client, seq := c.seq, set := c.set, id := c.id } : Cmd) := fold_num (fun e => by rw [e]; rfl) (by unfold stepC; rw [if_neg (by simp), if_neg (by simp), if_neg (by simp), if_neg (by simp), if_pos rfl]; simp only []; rw [cutN_nat h5])
  have e6 : (numF 6 c.n).foldl stepC ({ noCmd with kind := c.kind, client := c.client, seq := c.seq, set := c.set, id := c.id } : Cmd) = ({ noCmd with kind := c.kind, client := c.client, seq := c.seq, set := c.set, id := c.id, n := c.n } : Cmd) := fold_num (fun e => by rw [e]; rfl) (by unfold stepC; rw [if_neg (by simp), if_neg (by simp), if_neg (by simp), if_neg (by simp), if_neg (by simp), if_pos rfl]; simp only []; rw [cutN_nat h6])
  rw [e1, e2, e3, e4, e5, e6]
  have e7 : (chunkF c).foldl stepC { noCmd with kind := c.kind, client := c.client, seq := c.seq, set := c.set, id := c.id, n := c.n } = { c with text := [] } := by
    unfold chunkF
    split
    · rename_i he
      show ({ noCmd with kind := c.kind, client := c.client, seq := c.seq, set := c.set, id := c.id, n := c.n } : Cmd) = { c with text := [] }
      rw [he]; rfl
    · rename_i hne
      have hr := hch.resolve_left hne
      simp only [List.foldl_cons, List.foldl_nil]
      unfold stepC
      rw [if_neg (by simp), if_neg (by simp), if_neg (by simp), if_neg (by simp), if_neg (by simp), if_neg (by simp), if_pos rfl]
      simp only []
      rw [chunksB_row hr, row_unchunk hr]
      rfl
  rw [e7]
  unfold textF
  split
  · simp only [List.foldl_cons, List.foldl_nil]
    unfold stepC
    rw [if_neg (by simp), if_neg (by simp), if_neg (by simp), if_neg (by simp), if_neg (by simp), if_neg (by simp), if_neg (by simp), if_pos rfl]
  · rename_i hno
    have : c.text = [] := by
      rcases ht with h | h
      · exact h
      · cases hx : c.text with
        | nil => rfl
        | cons a b => exact absurd ⟨by rw [hx]; simp, h⟩ hno
    show ({ c with text := [] } : Cmd) = c
    rw [← this]

/-! ### the fields are a record's -/
theorem numF_mem {i x : Int} {f : Fel} (h : f ∈ numF i x) : f.num = i ∧ f.wire = 0 ∧ (f.n : Int) = x.toNat ∧ x ≠ 0 := by
  unfold numF at h
  split at h
  · simp at h
  · simp at h; subst h; rename_i hx; exact ⟨rfl, rfl, rfl, hx⟩
theorem chunkF_mem {c : Cmd} {f : Fel} (hc : c.chunks = [] ∨ row c.chunks = true) (h : f ∈ chunkF c) : f.num = 7 ∧ f.wire = 2 ∧ f.b.length ≠ 0 := by
  unfold chunkF at h
  split at h
  · simp at h
  · rename_i hne
    simp at h
    subst h
    have hr := hc.resolve_left hne
    refine ⟨rfl, rfl, ?_⟩
    rw [chunksB_row hr]
    simp only [List.length_map]
    have := (row_mem hr).2.1
    omega
theorem textF_mem {c : Cmd} {v : Int} {f : Fel} (h : f ∈ textF c v) : f.num = 8 ∧ f.wire = 2 ∧ f.b.length ≠ 0 ∧ 3 ≤ v := by
  unfold textF at h
  split at h
  · rename_i ht
    simp at h
    subst h
    exact ⟨rfl, rfl, fun e => ht.1 (List.eq_nil_of_length_eq_zero e), ht.2⟩
  · simp at h
theorem cnt_app (s : Spc) (a b : List Fel) : cnt s (a ++ b) = cnt s a + cnt s b := by unfold cnt; rw [List.filter_append, List.length_append]
theorem cnt_none {s : Spc} {l : List Fel} (h : ∀ f ∈ l, f.num ≠ s.num) : cnt s l = 0 := by
  unfold cnt
  rw [List.length_eq_zero_iff, List.filter_eq_nil_iff]
  intro f hf
  simpa using h f hf
theorem cnt_le (s : Spc) (l : List Fel) : cnt s l ≤ l.length := List.length_filter_le _ _
theorem ok_other {s : Spc} {f : Fel} (h : f.num ≠ s.num) : okField s f = true := by unfold okField; rw [decide_eq_true h]; rfl
theorem ok_num {s : Spc} {f : Fel} (h1 : f.wire = s.wire) (h2 : f.wire = 0) (h3 : f.n ≠ 0) : okField s f = true := by
  unfold okField
  rw [decide_eq_true h1, decide_eq_false h3, decide_eq_false (show ¬ f.wire = 2 by omega)]
  simp
theorem ok_byt {s : Spc} {f : Fel} (h1 : f.wire = s.wire) (h2 : f.wire = 2) (h3 : f.b.length ≠ 0) : okField s f = true := by
  unfold okField
  rw [decide_eq_true h1, decide_eq_false h3, decide_eq_false (show ¬ f.wire = 0 by omega)]
  simp
/-- Which specs a command has. -/
theorem specs_cmd {v : Int} (hv : inR v 1 3 = true) : ∀ s ∈ specs 1 v, (∃ i : Int, 1 ≤ i ∧ i ≤ 6 ∧ s.num = i ∧ s.wire = 0 ∧ s.many = false ∧ (s.need = true → i = 1)) ∨ (s.num = 7 ∧ s.wire = 2 ∧ s.many = false ∧ s.need = false) ∨ (s.num = 8 ∧ s.wire = 2 ∧ s.many = false ∧ s.need = false ∧ 3 ≤ v) := by
  have h1 := inR_iff.1 hv
  have : v = 1 ∨ v = 2 ∨ v = 3 := by omega
  intro s hs
  rcases this with rfl | rfl | rfl
  · have e : specs 1 1 = [numS 1 1 true, numS 2 1 false, numS 3 1 false, numS 4 1 false, numS 5 1 false, numS 6 1 false, bytS 7 1 false false] := by decide
    rw [e] at hs
    simp [numS, bytS] at hs
    rcases hs with rfl | rfl | rfl | rfl | rfl | rfl | rfl
    all_goals first
      | exact .inr (.inl ⟨rfl, rfl, rfl, rfl⟩)
      | exact .inr (.inr ⟨rfl, rfl, rfl, rfl, by decide⟩)
      | exact .inl ⟨1, by decide, by decide, rfl, rfl, rfl, by simp⟩
      | exact .inl ⟨2, by decide, by decide, rfl, rfl, rfl, by simp⟩
      | exact .inl ⟨3, by decide, by decide, rfl, rfl, rfl, by simp⟩
      | exact .inl ⟨4, by decide, by decide, rfl, rfl, rfl, by simp⟩
      | exact .inl ⟨5, by decide, by decide, rfl, rfl, rfl, by simp⟩
      | exact .inl ⟨6, by decide, by decide, rfl, rfl, rfl, by simp⟩
  · have e : specs 1 2 = [numS 1 1 true, numS 2 1 false, numS 3 1 false, numS 4 1 false, numS 5 1 false, numS 6 1 false, bytS 7 1 false false] := by decide
    rw [e] at hs
    simp [numS, bytS] at hs
    rcases hs with rfl | rfl | rfl | rfl | rfl | rfl | rfl
    all_goals first
      | exact .inr (.inl ⟨rfl, rfl, rfl, rfl⟩)
      | exact .inr (.inr ⟨rfl, rfl, rfl, rfl, by decide⟩)
      | exact .inl ⟨1, by decide, by decide, rfl, rfl, rfl, by simp⟩
      | exact .inl ⟨2, by decide, by decide, rfl, rfl, rfl, by simp⟩
      | exact .inl ⟨3, by decide, by decide, rfl, rfl, rfl, by simp⟩
      | exact .inl ⟨4, by decide, by decide, rfl, rfl, rfl, by simp⟩
      | exact .inl ⟨5, by decide, by decide, rfl, rfl, rfl, by simp⟩
      | exact .inl ⟨6, by decide, by decide, rfl, rfl, rfl, by simp⟩
  · have e : specs 1 3 = [numS 1 1 true, numS 2 1 false, numS 3 1 false, numS 4 1 false, numS 5 1 false, numS 6 1 false, bytS 7 1 false false, bytS 8 3 false false] := by decide
    rw [e] at hs
    simp [numS, bytS] at hs
    rcases hs with rfl | rfl | rfl | rfl | rfl | rfl | rfl | rfl
    all_goals first
      | exact .inr (.inl ⟨rfl, rfl, rfl, rfl⟩)
      | exact .inr (.inr ⟨rfl, rfl, rfl, rfl, by decide⟩)
      | exact .inl ⟨1, by decide, by decide, rfl, rfl, rfl, by simp⟩
      | exact .inl ⟨2, by decide, by decide, rfl, rfl, rfl, by simp⟩
      | exact .inl ⟨3, by decide, by decide, rfl, rfl, rfl, by simp⟩
      | exact .inl ⟨4, by decide, by decide, rfl, rfl, rfl, by simp⟩
      | exact .inl ⟨5, by decide, by decide, rfl, rfl, rfl, by simp⟩
      | exact .inl ⟨6, by decide, by decide, rfl, rfl, rfl, by simp⟩
theorem top_val {v : Int} (hv : inR v 1 3 = true) : top 1 v = if 3 ≤ v then 8 else 7 := by
  have h1 := inR_iff.1 hv
  have : v = 1 ∨ v = 2 ∨ v = 3 := by omega
  rcases this with rfl | rfl | rfl <;> decide
theorem specs_ne {v : Int} (hv : inR v 1 3 = true) : specs 1 v ≠ [] := by
  have h1 := inR_iff.1 hv
  have : v = 1 ∨ v = 2 ∨ v = 3 := by omega
  rcases this with rfl | rfl | rfl <;> decide
theorem fields_top {c : Cmd} (hc : c.chunks = [] ∨ row c.chunks = true) {v : Int} (hv : inR v 1 3 = true) : ∀ f ∈ fieldsC c v, f.num ≤ top 1 v := by
  have ht := top_val hv
  intro f hf
  unfold fieldsC numsF at hf
  simp only [List.mem_append] at hf
  rcases hf with (hf | hf | hf | hf | hf | hf) | hf | hf
  all_goals first
    | (have := (numF_mem hf).1; rw [ht]; split <;> omega)
    | (have := (chunkF_mem hc hf).1; rw [ht]; split <;> omega)
    | (have := textF_mem hf; rw [ht, if_pos this.2.2.2]; omega)
theorem fields_spec {c : Cmd} (hp : Puts c) {v : Int} (hv : inR v 1 3 = true) : ∀ s ∈ specs 1 v, okSpec s (fieldsC c v) = true := by
  obtain ⟨⟨h1, h2, h3, h4, h5, h6⟩, hch, _, hk⟩ := hp
  intro s hs
  have hsp := specs_cmd hv s hs
  have hall : (fieldsC c v).all (okField s) = true := by
    rw [List.all_eq_true]
    intro f hf
    by_cases hn : f.num = s.num
    · unfold fieldsC numsF at hf
      simp only [List.mem_append] at hf
      rcases hf with (hf | hf | hf | hf | hf | hf) | hf | hf
      all_goals first
        | (obtain ⟨m1, m2, m3, m4⟩ := numF_mem hf
           have hw : s.wire = 0 := by rcases hsp with ⟨i, _, _, _, q, _⟩ | q | q <;> omega
           exact ok_num (by rw [m2, hw]) m2 (by omega))
        | (obtain ⟨m1, m2, m3⟩ := chunkF_mem hch hf
           have hw : s.wire = 2 := by rcases hsp with ⟨i, _, _, _, q, _⟩ | q | q <;> omega
           exact ok_byt (by rw [m2, hw]) m2 m3)
        | (obtain ⟨m1, m2, m3, _⟩ := textF_mem hf
           have hw : s.wire = 2 := by rcases hsp with ⟨i, _, _, _, q, _⟩ | q | q <;> omega
           exact ok_byt (by rw [m2, hw]) m2 m3)
    · exact ok_other hn
  have hN : ∀ (i x : Int), i ≠ s.num → cnt s (numF i x) = 0 := fun i x hi => cnt_none fun f hf => by rw [(numF_mem hf).1]; exact hi
  have hC : s.num ≠ 7 → cnt s (chunkF c) = 0 := fun hi => cnt_none fun f hf => by rw [(chunkF_mem hch hf).1]; exact fun e => hi e.symm
  have hT : s.num ≠ 8 → cnt s (textF c v) = 0 := fun hi => cnt_none fun f hf => by rw [(textF_mem hf).1]; exact fun e => hi e.symm
  have lN : ∀ (i x : Int), cnt s (numF i x) ≤ 1 := fun i x => Nat.le_trans (cnt_le _ _) (numF_len i x)
  have lC : cnt s (chunkF c) ≤ 1 := Nat.le_trans (cnt_le _ _) (by unfold chunkF; split <;> simp)
  have lT : cnt s (textF c v) ≤ 1 := Nat.le_trans (cnt_le _ _) (by unfold textF; split <;> simp)
  have hcnt : cnt s (fieldsC c v) = (cnt s (numF 1 c.kind) + (cnt s (numF 2 c.client) + (cnt s (numF 3 c.seq) + (cnt s (numF 4 c.set) + (cnt s (numF 5 c.id) + cnt s (numF 6 c.n)))))) + (cnt s (chunkF c) + cnt s (textF c v)) := by
    unfold fieldsC numsF
    simp only [cnt_app]
  have n1 := hN 1 c.kind
  have n2 := hN 2 c.client
  have n3 := hN 3 c.seq
  have n4 := hN 4 c.set
  have n5 := hN 5 c.id
  have n6 := hN 6 c.n
  have l1 := lN 1 c.kind
  have l2 := lN 2 c.client
  have l3 := lN 3 c.seq
  have l4 := lN 4 c.set
  have l5 := lN 5 c.id
  have l6 := lN 6 c.n
  have hle : cnt s (fieldsC c v) ≤ 1 := by
    rw [hcnt]
    by_cases e1 : s.num = 1
    · have := n2 (by omega); have := n3 (by omega); have := n4 (by omega); have := n5 (by omega); have := n6 (by omega); have := hC (by omega); have := hT (by omega); omega
    by_cases e2 : s.num = 2
    · have := n1 (by omega); have := n3 (by omega); have := n4 (by omega); have := n5 (by omega); have := n6 (by omega); have := hC (by omega); have := hT (by omega); omega
    by_cases e3 : s.num = 3
    · have := n1 (by omega); have := n2 (by omega); have := n4 (by omega); have := n5 (by omega); have := n6 (by omega); have := hC (by omega); have := hT (by omega); omega
    by_cases e4 : s.num = 4
    · have := n1 (by omega); have := n2 (by omega); have := n3 (by omega); have := n5 (by omega); have := n6 (by omega); have := hC (by omega); have := hT (by omega); omega
    by_cases e5 : s.num = 5
    · have := n1 (by omega); have := n2 (by omega); have := n3 (by omega); have := n4 (by omega); have := n6 (by omega); have := hC (by omega); have := hT (by omega); omega
    by_cases e6 : s.num = 6
    · have := n1 (by omega); have := n2 (by omega); have := n3 (by omega); have := n4 (by omega); have := n5 (by omega); have := hC (by omega); have := hT (by omega); omega
    by_cases e7 : s.num = 7
    · have := n1 (by omega); have := n2 (by omega); have := n3 (by omega); have := n4 (by omega); have := n5 (by omega); have := n6 (by omega); have := hT (by omega); omega
    · have := n1 (by omega); have := n2 (by omega); have := n3 (by omega); have := n4 (by omega); have := n5 (by omega); have := n6 (by omega); have := hC (by omega); omega
  have hneed : s.need = true → cnt s (fieldsC c v) ≠ 0 := by
    intro hnd
    have e1 : s.num = 1 := by
      rcases hsp with ⟨i, _, _, q1, _, _, q2⟩ | q | q
      · rw [q1]; exact q2 hnd
      · rw [q.2.2.2] at hnd; cases hnd
      · rw [q.2.2.2.1] at hnd; cases hnd
    have : cnt s (numF 1 c.kind) = 1 := by
      unfold cnt numF
      rw [if_neg (by omega)]
      simp [e1]
    rw [hcnt]; omega
  unfold okSpec
  rw [hall, decide_eq_false (show ¬ 1 < cnt s (fieldsC c v) by omega)]
  cases hnd : s.need with
  | false => simp
  | true => rw [decide_eq_false (hneed hnd)]; rfl
theorem spec_app {s : Spc} {a b : List Fel} (h : okSpec s a = true) (hb : ∀ f ∈ b, f.num ≠ s.num) : okSpec s (a ++ b) = true := by
  unfold okSpec at h ⊢
  rw [cnt_app, cnt_none hb, Nat.add_zero, List.all_append]
  have : b.all (okField s) = true := List.all_eq_true.2 fun f hf => ok_other (hb f hf)
  rw [this, Bool.and_true]
  exact h
theorem specs_top {k v : Int} {s : Spc} (h : s ∈ specs k v) : s.num ≤ top k v := by
  have hgo : ∀ (l : List Spc) (t : Int), (t ≤ l.foldl (fun t s => max t s.num) t) ∧ ∀ s ∈ l, s.num ≤ l.foldl (fun t s => max t s.num) t := by
    intro l
    induction l with
    | nil => intro t; exact ⟨Int.le_refl _, by simp⟩
    | cons a l ih =>
      intro t
      obtain ⟨i1, i2⟩ := ih (max t a.num)
      refine ⟨by simp only [List.foldl_cons]; omega, fun s hs => ?_⟩
      simp only [List.foldl_cons]
      rcases List.mem_cons.1 hs with rfl | hs
      · omega
      · exact i2 s hs
  exact (hgo (specs k v) 0).2 s h
theorem check_fields {c : Cmd} (hp : Puts c) {v : Int} (hv : inR v 1 3 = true) {r : List Fel} (hr : ∀ f ∈ r, top 1 v < f.num) (hm : may (fieldsC c v ++ r) = 0) : check 1 v (fieldsC c v ++ r) = 0 :=
  check_ok rfl (specs_ne hv) hm fun s hs => spec_app (fields_spec hp hv s hs) fun f hf => by have := hr f hf; have := specs_top hs; omega
theorem parted {c : Cmd} (hc : c.chunks = [] ∨ row c.chunks = true) {v : Int} (hv : inR v 1 3 = true) {r : List Fel} (hr : ∀ f ∈ r, top 1 v < f.num) : known v (fieldsC c v ++ r) = fieldsC c v ∧ restOf v (fieldsC c v ++ r) = r := by
  have ht := fields_top hc hv
  unfold known restOf
  rw [List.filter_append, List.filter_append]
  constructor
  · rw [List.filter_eq_self.2 (fun f hf => by simpa using ht f hf), List.filter_eq_nil_iff.2 (fun f hf => by have := hr f hf; simp; omega), List.append_nil]
  · rw [List.filter_eq_nil_iff.2 (fun f hf => by simpa using ht f hf), List.filter_eq_self.2 (fun f hf => by have := hr f hf; simp; omega), List.nil_append]
end Go.Proofs.Ytkagonijkalicaa
