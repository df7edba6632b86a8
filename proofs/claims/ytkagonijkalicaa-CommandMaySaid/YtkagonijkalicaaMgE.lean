/-
  Several texts in one: Steady, Gen, Live, One, Maps, Fill.
-/
import Derived.Test.YtkagonijkalicaaWords
import Derived.Orders
import Derived.Maps.OwnSet
set_option linter.unusedVariables false
set_option linter.unusedSimpArgs false

/-
  A region that draws its order, each of whose operations, in whatever order they come, yields what is said of its temporary: what is said of a temporary may speak of the world, and stays true as the world grows.
  So each operation is looked at once, in a frame of which just what it looks at is known.
-/
namespace Go.Proofs.Ytkagonijkalicaa
open Go.RowKit

/-- Operation number j comes ahead of 'o'. -/
def waitsFor (o : Oper) (j : Nat) : Bool := o.after.any fun e => Region.binds .any e && e.on == j
/-- The operation that writes 't', if 'o' waits for it. -/
def fromBefore (ops : Array Oper) (o : Oper) (t : Tmp) : Bool :=
  (List.range ops.size).any fun j => ((ops[j]?).map fun p => p.dst == some t).getD false && waitsFor o j

/-- The edges are such that each operation's own operands are settled when it comes. -/
def settledB (ops : Array Oper) (n : Nat) : Bool :=
  (List.range ops.size).all fun i => match ops[i]? with
    | none => true
    | some o =>
      (o.after.all fun e => !Region.binds .any e || decide (e.on < i)) &&
      (match o.dst with
       | none => true
       | some d => decide (d < n) && !(o.looksAt ops).contains d && (List.range ops.size).all fun j => j == i || ((ops[j]?).map fun p => p.dst != some d).getD true) &&
      ((o.looksAt ops).all fun t => (List.range ops.size).all fun j => match ops[j]? with
        | none => true
        | some p => p.dst != some t || waitsFor o j || waitsFor p i)

section
variable {P : Program} {ops : Array Oper} {Γ : Tmp → Value → World → Prop} {C : World → Prop} {X : World → World → Prop} {a0 : Act}

def slot (a : Act) (t : Tmp) : Value := a.tmps[t]?.getD undef

/-- What is known of the frame when 'o' comes. -/
def Known (ops : Array Oper) (Γ : Tmp → Value → World → Prop) (a0 : Act) (o : Oper) (a : Act) (w : World) : Prop :=
  ∀ t ∈ o.looksAt ops, if fromBefore ops o t then Γ t (slot a t) w else slot a t = slot a0 t

/-- What is owed of one operation. -/
def Owed (P : Program) (ops : Array Oper) (Γ : Tmp → Value → World → Prop) (C : World → Prop) (X : World → World → Prop) (a0 : Act) (o : Oper) : Prop :=
  ∀ a w, C w → Known ops Γ a0 o a w →
    if Region.wanted o (yielded ops a.tmps) then o.wp P a w (fun a' w' => ∃ v, a' = a.put o.dst v ∧ C w' ∧ X w w' ∧ ∀ d, o.dst = some d → Γ d v w') (fun _ _ _ => False)
    else ∀ d, o.dst = some d → Γ d undef w

/-- The frame behind all of them. -/
def putsOf (l : List Oper) (vs : Tmp → Value) (a : Act) : Act :=
  match l with
  | [] => a
  | o :: r => putsOf r vs (match o.dst with | none => a | some d => a.put (some d) (vs d))

theorem wp_all {o : Oper} {a : Act} {w : World} {K K' : Act → World → Prop} {Q : Exit → Act → World → Prop} (h : o.wp P a w K (fun _ _ _ => False)) (hk : ∀ a w, K a w → K' a w) : o.wp P a w K' Q := by
  unfold Oper.wp at *
  generalize (execOp a.eval o).run P w = r at *
  cases r with
  | ok n w' =>
    cases n <;> simp only [Oper.upon] at h ⊢ <;>
      first
        | exact hk _ _ h
        | exact Calls.mono h (fun e w'' he => by
            cases e with
            | returned v => exact hk _ _ he
            | panicked c => exact he.elim
            | outgrown => obtain ⟨_, _, hf⟩ := he; exact hf.elim)
        | exact Rows.mono h (fun _ _ he => hk _ _ he)
  | halt x w' => cases x <;> simp only [Oper.upon] at h

theorem slot_put {a : Act} {d t : Tmp} {v : Value} (hd : d < a.tmps.size) : slot (a.put (some d) v) t = if d = t then v else slot a t := by
  unfold slot Act.put
  by_cases h : d = t
  · subst h; simp [hd]
  · rw [if_neg h]; simp [Array.getElem?_setIfInBounds_ne h]
theorem size_put (a : Act) (d : Option Tmp) (v : Value) : (a.put d v).tmps.size = a.tmps.size := by
  cases d <;> simp [Act.put]

/-- Where we are: some operations are through. -/
structure Through (ops : Array Oper) (Γ : Tmp → Value → World → Prop) (C : World → Prop) (a0 : Act) (listed : Array Bool) (a : Act) (w : World) : Prop where
  world : C w
  size : listed.size = ops.size
  defers : a.defers = a0.defers
  slots : a.tmps.size = a0.tmps.size
  good : ∀ (j : Nat) (o : Oper) (d : Tmp), ops[j]? = some o → o.dst = some d → listed.getD j false = true → Γ d (slot a d) w
  closed : ∀ (j : Nat) (o : Oper), ops[j]? = some o → listed.getD j false = true → ∀ e ∈ o.after, Region.binds .any e = true → listed.getD e.on false = true
  rest : ∀ t, (∀ (j : Nat) (o : Oper), ops[j]? = some o → listed.getD j false = true → o.dst ≠ some t) → slot a t = slot a0 t

theorem waits_iff {o : Oper} {j : Nat} : waitsFor o j = true ↔ ∃ e ∈ o.after, Region.binds .any e = true ∧ e.on = j := by
  unfold waitsFor
  rw [Array.any_eq_true]
  constructor
  · rintro ⟨i, hi, h⟩
    simp only [Bool.and_eq_true, beq_iff_eq] at h
    exact ⟨_, Array.getElem_mem hi, h⟩
  · rintro ⟨e, he, hb, ho⟩
    obtain ⟨i, hi, rfl⟩ := Array.getElem_of_mem he
    exact ⟨i, hi, by simp [hb, ho]⟩
theorem before_iff {o : Oper} {t : Tmp} : fromBefore ops o t = true ↔ ∃ j p, ops[j]? = some p ∧ p.dst = some t ∧ waitsFor o j = true := by
  unfold fromBefore
  rw [List.any_eq_true]
  constructor
  · rintro ⟨j, _, h⟩
    cases hp : ops[j]? with
    | none => simp [hp] at h
    | some p => simp [hp] at h; exact ⟨j, p, hp, h.1, h.2⟩
  · rintro ⟨j, p, hp, hd, hw⟩
    exact ⟨j, List.mem_range.2 (Array.getElem?_eq_some_iff.1 hp).1, by simp [hp, hd, hw]⟩

/-- What the Bool says, operation by operation. -/
theorem settled_spec {n : Nat} (h : settledB ops n = true) {i : Nat} {o : Oper} (hi : ops[i]? = some o) :
    (∀ e ∈ o.after, Region.binds .any e = true → e.on < i) ∧
    (∀ d, o.dst = some d → d < n ∧ d ∉ o.looksAt ops ∧ ∀ j p, ops[j]? = some p → j ≠ i → p.dst ≠ some d) ∧
    (∀ t ∈ o.looksAt ops, ∀ j p, ops[j]? = some p → p.dst = some t → waitsFor o j = true ∨ waitsFor p i = true) := by
  unfold settledB at h
  rw [List.all_eq_true] at h
  have h1 := h i (List.mem_range.2 (Array.getElem?_eq_some_iff.1 hi).1)
  simp only [hi, Bool.and_eq_true] at h1
  obtain ⟨⟨ha, hd⟩, hl⟩ := h1
  refine ⟨fun e he hb => ?_, fun d hdst => ?_, fun t ht j p hp hpt => ?_⟩
  · rw [Array.all_eq_true_iff_forall_mem] at ha
    have := ha e he
    simpa [hb] using this
  · simp only [hdst, Bool.and_eq_true, decide_eq_true_eq, Bool.not_eq_true'] at hd
    refine ⟨hd.1.1, by simpa using hd.1.2, fun j p hp hj => ?_⟩
    have := List.all_eq_true.1 hd.2 j (List.mem_range.2 (Array.getElem?_eq_some_iff.1 hp).1)
    simpa [hp, hj] using this
  · have := List.all_eq_true.1 (List.all_eq_true.1 hl t ht) j (List.mem_range.2 (Array.getElem?_eq_some_iff.1 hp).1)
    simpa [hp, hpt] using this

theorem getD_of_ready {listed : Array Bool} {i : Nat} (h : listed.getD i true = false) : listed.getD i false = false ∧ i < listed.size := by
  rcases Nat.lt_or_ge i listed.size with h' | h'
  · simp [h'] at h ⊢; exact h
  · simp [Array.getElem?_eq_none h'] at h

/-- What is known when an operation comes. -/
theorem Through.known {n : Nat} (hB : settledB ops n = true) {listed : Array Bool} {a : Act} {w : World} (h : Through ops Γ C a0 listed a w) {i : Nat} {o : Oper} (hi : ops[i]? = some o)
    (hr : i ∈ Region.ready .any ops listed) : Known ops Γ a0 o a w := by
  obtain ⟨hun, o', ho', hall⟩ := mem_ready.1 hr
  rw [hi] at ho'
  cases ho'
  obtain ⟨_, _, hl⟩ := settled_spec hB hi
  intro t ht
  split
  · rename_i hb
    obtain ⟨j, p, hp, hpt, hw⟩ := before_iff.1 hb
    obtain ⟨e, he, hbn, hon⟩ := waits_iff.1 hw
    exact h.good j p t hp hpt (by rw [← hon]; exact hall e he hbn)
  · rename_i hb
    refine h.rest t fun j p hp hlj hpt => ?_
    rcases hl t ht j p hp hpt with hw | hw
    · exact hb (before_iff.2 ⟨j, p, hp, hpt, hw⟩)
    · obtain ⟨e, he, hbn, hon⟩ := waits_iff.1 hw
      have hli := h.closed j p hp hlj e he hbn
      rw [hon, (getD_of_ready hun).1] at hli
      cases hli

theorem Through.step {n : Nat} (hB : settledB ops n = true) (hn : a0.tmps.size = n) (hX : ∀ t v w w', C w → C w' → X w w' → Γ t v w → Γ t v w') {listed : Array Bool} {a : Act} {w w' : World} (h : Through ops Γ C a0 listed a w) {i : Nat} {o : Oper} (hi : ops[i]? = some o)
    (hr : i ∈ Region.ready .any ops listed) {v : Value} (hC : C w') (hx : X w w') (hg : ∀ d, o.dst = some d → Γ d v w') : Through ops Γ C a0 (listed.setIfInBounds i true) (a.put o.dst v) w' := by
  obtain ⟨_, hd, _⟩ := settled_spec hB hi
  obtain ⟨hun, o', ho', hall⟩ := mem_ready.1 hr
  rw [hi] at ho'
  cases ho'
  have hil := (getD_of_ready hun).2
  refine ⟨hC, by simpa using h.size, ?_, by rw [size_put]; exact h.slots, fun j p d hp hpd hlj => ?_, fun j p hp hlj e he hb => ?_, fun t ht => ?_⟩
  · rw [← h.defers]; cases o.dst <;> rfl
  · by_cases hji : j = i
    · subst hji
      rw [hi] at hp
      cases hp
      rw [hpd, slot_put (by rw [h.slots, hn]; exact (hd d hpd).1), if_pos rfl]
      exact hg d hpd
    · rw [getD_set_ne false (Ne.symm hji)] at hlj
      have h1 := hX d _ w w' h.world hC hx (h.good j p d hp hpd hlj)
      cases ho : o.dst with
      | none => exact h1
      | some e =>
        rw [slot_put (by rw [h.slots, hn]; exact (hd e ho).1), if_neg]
        · exact h1
        · rintro rfl
          exact (hd e ho).2.2 j p hp hji hpd
  · by_cases hji : j = i
    · subst hji
      rw [hi] at hp
      cases hp
      exact getD_set_true (hall e he hb)
    · rw [getD_set_ne false (Ne.symm hji)] at hlj
      exact getD_set_true (h.closed j p hp hlj e he hb)
  · have hti : o.dst ≠ some t := ht i o hi (by simp [hil])
    have hold : slot a t = slot a0 t := h.rest t fun j p hp hlj => ht j p hp (getD_set_true hlj)
    cases ho : o.dst with
    | none => exact hold
    | some e =>
      rw [slot_put (by rw [h.slots, hn]; exact (hd e ho).1), if_neg (fun he => hti (by rw [ho, he]))]
      exact hold

/-- If an operation is left, one may come. -/
theorem ready_some {n : Nat} (hB : settledB ops n = true) {listed : Array Bool} (hs : listed.size = ops.size) (h : Region.ready .any ops listed = []) : ∀ i, i < ops.size → listed.getD i false = true := by
  intro i
  induction i using Nat.strongRecOn with
  | _ i ih =>
    intro hi
    obtain ⟨o, ho⟩ : ∃ o, ops[i]? = some o := ⟨ops[i], Array.getElem?_eq_getElem hi⟩
    cases hl : listed.getD i false with
    | true => rfl
    | false =>
      exfalso
      have hm : i ∈ Region.ready .any ops listed := by
        refine mem_ready.2 ⟨?_, o, ho, fun e he hb => ?_⟩
        · simp [hs, hi] at hl ⊢; exact hl
        · have hlt := (settled_spec hB ho).1 e he hb
          exact ih e.on hlt (by omega)
      rw [h] at hm
      cases hm

theorem slot_ext {a b : Act} (hs : a.tmps.size = b.tmps.size) (hd : a.defers = b.defers) (h : ∀ t, slot a t = slot b t) : a = b := by
  obtain ⟨x, dx⟩ := a
  obtain ⟨y, dy⟩ := b
  simp only [slot] at *
  subst hd
  congr 1
  apply Array.ext hs
  intro i h1 h2
  have := h i
  simpa [h1, h2] using this

theorem size_putsOf (l : List Oper) (vs : Tmp → Value) : ∀ a : Act, (putsOf l vs a).tmps.size = a.tmps.size := by
  induction l with
  | nil => intro a; rfl
  | cons o l ih => intro a; unfold putsOf; rw [ih]; cases o.dst <;> simp [size_put]
theorem defers_putsOf (l : List Oper) (vs : Tmp → Value) : ∀ a : Act, (putsOf l vs a).defers = a.defers := by
  induction l with
  | nil => intro a; rfl
  | cons o l ih => intro a; unfold putsOf; rw [ih]; cases o.dst <;> rfl
theorem slot_putsOf (vs : Tmp → Value) (t : Tmp) : ∀ (l : List Oper) (a : Act), (∀ o ∈ l, ∀ d, o.dst = some d → d < a.tmps.size) →
    slot (putsOf l vs a) t = (if l.any (fun o => o.dst == some t) then vs t else slot a t) := by
  intro l
  induction l with
  | nil => intro a _; rfl
  | cons o l ih =>
    intro a ha
    unfold putsOf
    cases ho : o.dst with
    | none =>
      simp only []
      rw [ih a (fun p hp => ha p (by simp [hp]))]
      simp [ho]
    | some d =>
      simp only []
      have hd := ha o (by simp) d ho
      rw [ih _ (fun p hp e he => by rw [size_put]; exact ha p (by simp [hp]) e he), slot_put hd]
      by_cases hdt : d = t
      · subst hdt; simp [ho]
      · simp [ho, hdt]

theorem Through.ends {n : Nat} (hB : settledB ops n = true) (hn : a0.tmps.size = n) {listed : Array Bool} {a : Act} {w : World} (h : Through ops Γ C a0 listed a w) (hr : Region.ready .any ops listed = []) :
    a = putsOf ops.toList (slot a) a0 ∧ ∀ o ∈ ops.toList, ∀ d, o.dst = some d → Γ d (slot a d) w := by
  have hall := ready_some hB h.size hr
  have hmem : ∀ o ∈ ops.toList, ∃ j, j < ops.size ∧ ops[j]? = some o := by
    intro o ho
    obtain ⟨j, hj, rfl⟩ := List.getElem_of_mem ho
    exact ⟨j, by simpa using hj, by simp⟩
  refine ⟨slot_ext (by rw [size_putsOf]; exact h.slots) (by rw [defers_putsOf]; exact h.defers) fun t => ?_, fun o ho d hd => ?_⟩
  · rw [slot_putsOf]
    · split
      · rfl
      · rename_i hno
        refine h.rest t fun j p hp _ hpt => hno ?_
        rw [List.any_eq_true]
        exact ⟨p, Array.mem_toList_iff.2 (Array.mem_of_getElem? hp), by simp [hpt]⟩
    · intro o ho d hd
      obtain ⟨j, _, hp⟩ := hmem o ho
      rw [hn]
      exact ((settled_spec hB hp).2.1 d hd).1
  · obtain ⟨j, hj, hp⟩ := hmem o ho
    exact h.good j o d hp hd (hall j hj)

theorem wpAny_steady {n : Nat} {Q : Exit → Act → World → Prop} (hB : settledB ops n = true) (hn : a0.tmps.size = n) (hR : ∀ w, X w w) (hX : ∀ t v w w', C w → C w' → X w w' → Γ t v w → Γ t v w') (h : ∀ o ∈ ops.toList, Owed P ops Γ C X a0 o)
    (hQ : ∀ (vs : Tmp → Value) (w : World), C w → (∀ o ∈ ops.toList, ∀ d, o.dst = some d → Γ d (vs d) w) → Q .normal (putsOf ops.toList vs a0) w) :
    ∀ (fuel : Nat) (listed : Array Bool) (a : Act) (w : World), Through ops Γ C a0 listed a w → listed.toList.count false = fuel → wpAny P .any ops Q fuel listed a w := by
  intro fuel
  have hend : ∀ (listed : Array Bool) (a : Act) (w : World), Through ops Γ C a0 listed a w → Region.ready .any ops listed = [] → Q .normal a w := by
    intro listed a w ht hr
    obtain ⟨he, hg⟩ := ht.ends hB hn hr
    rw [he]
    exact hQ _ w ht.world hg
  induction fuel with
  | zero =>
    intro listed a w ht hc
    have hr : Region.ready .any ops listed = [] := by
      refine List.eq_nil_iff_forall_not_mem.2 fun i hi => ?_
      have hun := getD_of_ready (mem_ready.1 hi).1
      have hm : false ∈ listed.toList := by
        have := hun.1
        simp [hun.2] at this
        rw [← this]
        exact Array.mem_toList_iff.2 (Array.getElem_mem hun.2)
      rw [List.count_eq_zero] at hc
      exact hc hm
    exact ⟨hr, hend _ _ _ ht hr⟩
  | succ fuel ih =>
    intro listed a w ht hc
    refine ⟨hend _ _ _ ht, fun i hi => ?_⟩
    have hun := getD_of_ready (mem_ready.1 hi).1
    have hc' : (listed.setIfInBounds i true).toList.count false = fuel := by
      have hset : (listed.setIfInBounds i true).toList = listed.toList.set i true := by simp
      have hget : listed.toList[i]'(by simpa using hun.2) = false := by
        have := hun.1
        simpa [hun.2] using this
      rw [hset, List.count_set (by simpa using hun.2), hget]
      simp [hc]
    cases hi' : ops[i]? with
    | none =>
      obtain ⟨_, o, ho, _⟩ := mem_ready.1 hi
      rw [hi'] at ho
      cases ho
    | some o =>
      have hk := ht.known hB hi' hi
      have hob := h o (Array.mem_toList_iff.2 (Array.mem_of_getElem? hi')) a w ht.world hk
      unfold wpOp
      simp only [hi']
      split
      · rename_i hw
        rw [if_pos hw] at hob
        refine .inl (wp_all hob ?_)
        rintro a' w' ⟨v, rfl, hC, hx, hg⟩
        exact ih _ _ _ (ht.step hB hn hX hi' hi hC hx hg) hc'
      · rename_i hw
        rw [if_neg hw] at hob
        exact ih _ _ _ (ht.step (v := undef) (w' := w) hB hn hX hi' hi ht.world (hR w) hob) hc'

theorem none_yet (n j : Nat) : (Array.replicate n false).getD j false = false := by
  simp only [Array.getD_eq_getD_getElem?, Array.getElem?_replicate]
  split <;> rfl

/-- THE RULE: each operation by itself; then what stands behind, in a frame that holds whatever is said. -/
theorem wp_region_steady {id n : Nat} {l : List Oper} {Q : Exit → Act → World → Prop} {w : World} (hm : P.follows .mixedOrders = true) (hB : settledB l.toArray n = true) (hn : a0.tmps.size = n) (hC : C w.drew) (hR : ∀ w, X w w)
    (hX : ∀ t v w w', C w → C w' → X w w' → Γ t v w → Γ t v w') (h : ∀ o ∈ l, Owed P l.toArray Γ C X a0 o)
    (hQ : ∀ (vs : Tmp → Value) (w : World), C w → (∀ o ∈ l, ∀ d, o.dst = some d → Γ d (vs d) w) → Q .normal (putsOf l vs a0) w) : (Code.region id l.toArray true).wp P Q a0 w := by
  refine wp_region_any hm (wpAny_steady (C := C) (X := X) (Γ := Γ) (n := n) hB hn hR hX (by simpa using h) (by simpa using hQ) _ _ _ _ ?_ ?_)
  · exact ⟨hC, by simp, rfl, rfl, fun j o d hj _ hl => absurd hl (by rw [none_yet]; decide), fun j o hj hl => absurd hl (by rw [none_yet]; decide), fun _ _ => rfl⟩
  · simp

/-! ### The rule at worlds that grow -/

/-- All that was there is as it was. -/
def Grew (w0 : World) : World → Prop := fun w => Below w0.heap.size w0 w
theorem Grew.trans {w0 w w' : World} (h : Grew w0 w) (h' : Grew w w') : Grew w0 w' := Below.trans h (Below.mono h' (Below.size h))

/-- What is said of a value, and stays true as the world grows. -/
def Sp := { G : Value → World → Prop // ∀ v w w', Grew w w' → G v w → G v w' }
def isv (c : Value) : Sp := ⟨fun v _ => v = c, fun _ _ _ _ h => h⟩
def istxt (bs : List Nat) : Sp := ⟨Txt bs, fun _ _ _ hx h => Txt.below hx h⟩
def isany : Sp := ⟨fun _ _ => True, fun _ _ _ _ h => h⟩
/-- What is said of temporaries: a list; of one that is not in it, nothing. -/
def Say (l : List (Tmp × Sp)) (t : Tmp) : Sp :=
  match l with
  | [] => isany
  | (s, G) :: r => if s = t then G else Say r t
/-- All of them. -/
def Oweds (P : Program) (ops : Array Oper) (S : Tmp → Sp) (w : World) (a0 : Act) : List Oper → Prop
  | [] => True
  | o :: r => Owed P ops (fun t => (S t).1) (Grew w) Grew a0 o ∧ Oweds P ops S w a0 r
def Goods (S : Tmp → Sp) (vs : Tmp → Value) (w : World) : List Oper → Prop
  | [] => True
  | o :: r => (match o.dst with | none => True | some d => (S d).1 (vs d) w) ∧ Goods S vs w r
theorem oweds_all {S : Tmp → Sp} {w : World} : ∀ {l : List Oper}, Oweds P ops S w a0 l → ∀ o ∈ l, Owed P ops (fun t => (S t).1) (Grew w) Grew a0 o
  | [], _, _, h => by cases h
  | _ :: _, ⟨h, hr⟩, _, hm => by
    rcases List.mem_cons.1 hm with rfl | hm
    · exact h
    · exact oweds_all hr _ hm
theorem goods_all {S : Tmp → Sp} {vs : Tmp → Value} {w : World} : ∀ {l : List Oper}, (∀ o ∈ l, ∀ d, o.dst = some d → (S d).1 (vs d) w) → Goods S vs w l
  | [], _ => trivial
  | o :: l, h => by
    refine ⟨?_, goods_all fun p hp => h p (List.mem_cons_of_mem _ hp)⟩
    cases ho : o.dst with
    | none => trivial
    | some d => exact h o (by simp) d ho

/-- What is owed, where an operation is carried out without a question ahead of it. -/
theorem owed_plain {o : Oper} {d : Tmp} {w0 : World} (hg : o.guard = none) (hd : o.dst = some d)
    (h : ∀ a w, Grew w0 w → Known ops Γ a0 o a w → ∀ K : Act → World → Prop, (∀ v w', Grew w w' → Γ d v w' → K (a.put (some d) v) w') → o.wp P a w K (fun _ _ _ => False)) :
    Owed P ops Γ (Grew w0) Grew a0 o := by
  intro a w hC hK
  rw [if_pos (by simp [Region.wanted, hg])]
  refine h a w hC hK _ fun v w' hx hG => ⟨v, by rw [hd], hC.trans hx, hx, fun e he => ?_⟩
  rw [hd] at he
  cases he
  exact hG
theorem yielded_of {j : Nat} {t : Tmp} {b : Bool} {a : Act} (hj : (ops[j]?).bind (·.dst) = some t) (hs : slot a t = .bool b) : yielded ops a.tmps j = some b := by
  unfold yielded
  rw [hj]
  unfold slot at hs
  cases h : a.tmps[t]? with
  | none => simp [h, undef] at hs
  | some u => simp [h] at hs; simp [h, hs]
/-- .. where it is guarded, and the guard's answer is the one that it wants. -/
theorem owed_wanted {o : Oper} {d g : Tmp} {j : Nat} {b : Bool} {w0 : World} (hg : o.guard = some (j, b)) (hj : (ops[j]?).bind (·.dst) = some g) (hd : o.dst = some d)
    (hk : ((o.looksAt ops).contains g && fromBefore ops o g) = true) (hv : ∀ v w, Γ g v w → v = .bool b)
    (h : ∀ a w, Grew w0 w → Known ops Γ a0 o a w → ∀ K : Act → World → Prop, (∀ v w', Grew w w' → Γ d v w' → K (a.put (some d) v) w') → o.wp P a w K (fun _ _ _ => False)) :
    Owed P ops Γ (Grew w0) Grew a0 o := by
  intro a w hC hK
  simp only [Bool.and_eq_true] at hk
  have hs := hK g (by simpa using hk.1)
  rw [if_pos hk.2] at hs
  rw [if_pos (by simp [Region.wanted, hg, yielded_of hj (hv _ _ hs)])]
  refine h a w hC hK _ fun v w' hx hG => ⟨v, by rw [hd], hC.trans hx, hx, fun e he => ?_⟩
  rw [hd] at he
  cases he
  exact hG
/-- .. where it is guarded, and not wanted. -/
theorem owed_skipped {o : Oper} {d g : Tmp} {j : Nat} {b : Bool} {w0 : World} (hg : o.guard = some (j, b)) (hj : (ops[j]?).bind (·.dst) = some g) (hd : o.dst = some d)
    (hk : ((o.looksAt ops).contains g && fromBefore ops o g) = true) (hv : ∀ v w, Γ g v w → v = .bool (!b)) (h : ∀ w, Γ d undef w) : Owed P ops Γ (Grew w0) Grew a0 o := by
  intro a w hC hK
  simp only [Bool.and_eq_true] at hk
  have hs := hK g (by simpa using hk.1)
  rw [if_pos hk.2] at hs
  rw [if_neg (by simp [Region.wanted, hg, yielded_of hj (hv _ _ hs)])]
  intro e he
  rw [hd] at he
  cases he
  exact h w
theorem known_in {o : Oper} {a : Act} {w : World} (hK : Known ops Γ a0 o a w) (t : Tmp) (ht : ((o.looksAt ops).contains t && fromBefore ops o t) = true) : Γ t (slot a t) w := by
  simp only [Bool.and_eq_true] at ht
  have hs := hK t (by simpa using ht.1)
  rwa [if_pos ht.2] at hs
theorem known_out {o : Oper} {a : Act} {w : World} (hK : Known ops Γ a0 o a w) (t : Tmp) (ht : ((o.looksAt ops).contains t && !fromBefore ops o t) = true) : slot a t = slot a0 t := by
  simp only [Bool.and_eq_true, Bool.not_eq_true'] at ht
  have hs := hK t (by simpa using ht.1)
  rwa [if_neg (by simp [ht.2])] at hs
theorem eval_slot (a : Act) (t : Tmp) : a.eval (.tmp t) = slot a t := by simp [Act.eval, slot]

theorem owed_move {o : Oper} {d t : Tmp} {w0 : World} (hg : o.guard = none) (hd : o.dst = some d) (ho : o.op = .move (.tmp t) ∨ o.op = .assign (.tmp t))
    (h : ∀ a w, Grew w0 w → Known ops Γ a0 o a w → Γ d (slot a t) w) : Owed P ops Γ (Grew w0) Grew a0 o :=
  owed_plain hg hd fun a w hC hK K hk => by
    have hr := hk _ w (Below.refl _ _) (h a w hC hK)
    unfold Oper.wp execOp
    rcases ho with ho | ho <;> simp only [ho, Sem.run_pure, Oper.upon, eval_slot] <;> rw [hd] <;> exact hr

theorem owed_val {o : Oper} {d : Tmp} {w0 : World} (c : Value) (hg : o.guard = none) (hd : o.dst = some d) (hG : ∀ w, Γ d c w)
    (h : ∀ a w, Grew w0 w → Known ops Γ a0 o a w → (execOp a.eval o).run P w = .ok (.value c) w) : Owed P ops Γ (Grew w0) Grew a0 o :=
  owed_plain hg hd fun a w hC hK K hk => by
    have hr := hk _ w (Below.refl _ _) (hG w)
    unfold Oper.wp
    rw [h a w hC hK, ← hd] at *
    exact hr

theorem owed_wval {o : Oper} {d g : Tmp} {j : Nat} {b : Bool} {w0 : World} (c : Value) (hg : o.guard = some (j, b)) (hj : (ops[j]?).bind (·.dst) = some g) (hd : o.dst = some d)
    (hk : ((o.looksAt ops).contains g && fromBefore ops o g) = true) (hv : ∀ v w, Γ g v w → v = .bool b) (hG : ∀ w, Γ d c w)
    (h : ∀ a w, Grew w0 w → Known ops Γ a0 o a w → (execOp a.eval o).run P w = .ok (.value c) w) : Owed P ops Γ (Grew w0) Grew a0 o :=
  owed_wanted hg hj hd hk hv fun a w hC hK K hk => by
    have hr := hk _ w (Below.refl _ _) (hG w)
    unfold Oper.wp
    rw [h a w hC hK, ← hd] at *
    exact hr
theorem owed_movew {o : Oper} {d g t : Tmp} {j : Nat} {b : Bool} {w0 : World} (hg : o.guard = some (j, b)) (hj : (ops[j]?).bind (·.dst) = some g) (hd : o.dst = some d)
    (hk : ((o.looksAt ops).contains g && fromBefore ops o g) = true) (hv : ∀ v w, Γ g v w → v = .bool b) (ho : o.op = .move (.tmp t) ∨ o.op = .assign (.tmp t))
    (h : ∀ a w, Grew w0 w → Known ops Γ a0 o a w → Γ d (slot a t) w) : Owed P ops Γ (Grew w0) Grew a0 o :=
  owed_wanted hg hj hd hk hv fun a w hC hK K hk => by
    have hr := hk _ w (Below.refl _ _) (h a w hC hK)
    unfold Oper.wp execOp
    rcases ho with ho | ho <;> simp only [ho, Sem.run_pure, Oper.upon, eval_slot] <;> rw [hd] <;> exact hr

/-- THE RULE AT WORLDS THAT GROW: of each temporary it is said what it holds. -/
theorem wp_region_grew {id n : Nat} {l : List Oper} {Q : Exit → Act → World → Prop} {w : World} (S : Tmp → Sp) (hm : P.follows .mixedOrders = true) (hB : settledB l.toArray n = true) (hn : a0.tmps.size = n)
    (h : Oweds P l.toArray S w a0 l) (hQ : ∀ (vs : Tmp → Value) (w' : World), Grew w w' → Goods S vs w' l → Q .normal (putsOf l vs a0) w') : (Code.region id l.toArray true).wp P Q a0 w :=
  wp_region_steady (C := Grew w) (X := Grew) (Γ := fun t => (S t).1) hm hB hn ⟨rfl, rfl, rfl, Nat.le_refl _, fun _ _ => rfl⟩ (fun _ => Below.refl _ _) (fun t v w w' _ _ hx hv => (S t).2 v w w' hx hv) (oweds_all h)
    fun vs w' hC hg => hQ vs w' hC (goods_all hg)
end
end Go.Proofs.Ytkagonijkalicaa

/-
  A region that draws its order: each operation by itself, with something said of the operations that are through, the frame and the world (an invariant of one's own).
-/
namespace Go.Proofs.Ytkagonijkalicaa
open Go.RowKit

section
variable {P : Program} {ops : Array Oper} {Γ : Tmp → Value → World → Prop} {C : Array Bool → Act → World → Prop} {a0 : Act}

/-- What is owed of the i-th operation. -/
def OwedG (P : Program) (ops : Array Oper) (Γ : Tmp → Value → World → Prop) (C : Array Bool → Act → World → Prop) (a0 : Act) (i : Nat) (o : Oper) : Prop :=
  ∀ listed a w, i < listed.size → listed.size = ops.size → a.tmps.size = a0.tmps.size → C listed a w → listed.getD i false = false → (∀ (j : Nat) (p : Oper), ops[j]? = some p → listed.getD j false = true → ∀ e ∈ p.after, Region.binds .any e = true → listed.getD e.on false = true) →
    (∀ e ∈ o.after, Region.binds .any e = true → listed.getD e.on false = true) → Known ops Γ a0 o a w →
    Region.wanted o (yielded ops a.tmps) = true ∧ o.wp P a w (fun a' w' => ∃ v, a' = a.put o.dst v ∧ C (listed.setIfInBounds i true) (a.put o.dst v) w' ∧ (∀ t u, Γ t u w → Γ t u w') ∧ ∀ d, o.dst = some d → Γ d v w') (fun _ _ _ => False)

theorem wpAny_gen {n : Nat} {Q : Exit → Act → World → Prop} (hB : settledB ops n = true) (hn : a0.tmps.size = n) (h : ∀ i o, ops[i]? = some o → OwedG P ops Γ C a0 i o)
    (hQ : ∀ (a : Act) (w : World) (listed : Array Bool), listed.size = ops.size → (∀ i, i < ops.size → listed.getD i false = true) → C listed a w → a = putsOf ops.toList (slot a) a0 → (∀ o ∈ ops.toList, ∀ d, o.dst = some d → Γ d (slot a d) w) → Q .normal a w) :
    ∀ (fuel : Nat) (listed : Array Bool) (a : Act) (w : World), Through ops Γ (fun _ => True) a0 listed a w → C listed a w → listed.toList.count false = fuel → wpAny P .any ops Q fuel listed a w := by
  intro fuel
  have hend : ∀ (listed : Array Bool) (a : Act) (w : World), Through ops Γ (fun _ => True) a0 listed a w → C listed a w → Region.ready .any ops listed = [] → Q .normal a w := by
    intro listed a w ht hc hr
    obtain ⟨he, hg⟩ := ht.ends hB hn hr
    exact hQ _ w listed ht.size (ready_some hB ht.size hr) hc he hg
  induction fuel with
  | zero =>
    intro listed a w ht hC hc
    have hr : Region.ready .any ops listed = [] := by
      refine List.eq_nil_iff_forall_not_mem.2 fun i hi => ?_
      have hun := getD_of_ready (mem_ready.1 hi).1
      have hm : false ∈ listed.toList := by
        have := hun.1
        simp [hun.2] at this
        rw [← this]
        exact Array.mem_toList_iff.2 (Array.getElem_mem hun.2)
      rw [List.count_eq_zero] at hc
      exact hc hm
    exact ⟨hr, hend _ _ _ ht hC hr⟩
  | succ fuel ih =>
    intro listed a w ht hC hc
    refine ⟨hend _ _ _ ht hC, fun i hi => ?_⟩
    have hun := getD_of_ready (mem_ready.1 hi).1
    have hc' : (listed.setIfInBounds i true).toList.count false = fuel := by
      have hset : (listed.setIfInBounds i true).toList = listed.toList.set i true := by simp
      have hget : listed.toList[i]'(by simpa using hun.2) = false := by
        have := hun.1
        simpa [hun.2] using this
      rw [hset, List.count_set (by simpa using hun.2), hget]
      simp [hc]
    obtain ⟨_, o, hi', hall⟩ := mem_ready.1 hi
    have hk := ht.known hB hi' hi
    obtain ⟨hw, hob⟩ := h i o hi' listed a w hun.2 ht.size ht.slots hC hun.1 ht.closed hall hk
    unfold wpOp
    simp only [hi']
    rw [if_pos hw]
    refine .inl (wp_all hob ?_)
    rintro a' w' ⟨v, rfl, hC', hx, hg⟩
    exact ih _ _ _ (ht.step (Γ := Γ) (C := fun _ => True) (X := fun w w' => ∀ t u, Γ t u w → Γ t u w') hB hn (fun t u _ _ _ _ hX h => hX t u h) hi' hi trivial hx hg) hC' hc'

/-- Of each operation of a list, from the i-th on. -/
def OwedGs (P : Program) (ops : Array Oper) (Γ : Tmp → Value → World → Prop) (C : Array Bool → Act → World → Prop) (a0 : Act) : Nat → List Oper → Prop
  | _, [] => True
  | i, o :: r => OwedG P ops Γ C a0 i o ∧ OwedGs P ops Γ C a0 (i + 1) r
theorem owedgs_all : ∀ {l : List Oper} {k : Nat}, OwedGs P ops Γ C a0 k l → ∀ i p, l[i]? = some p → OwedG P ops Γ C a0 (k + i) p
  | [], _, _, _, _, hp => by simp at hp
  | o :: r, k, h, 0, p, hp => by
    obtain rfl : o = p := by simpa using hp
    exact h.1
  | o :: r, k, h, i + 1, p, hp => by
    have := owedgs_all h.2 i p (by simpa using hp)
    rwa [show k + 1 + i = k + (i + 1) by omega] at this
theorem slot_ne {a : Act} {d : Option Tmp} {t : Tmp} {v : Value} (h : d ≠ some t) : slot (a.put d v) t = slot a t := by
  cases d with
  | none => rfl
  | some d =>
    unfold slot Act.put
    have : d ≠ t := fun e => h (by rw [e])
    simp [Array.getElem?_setIfInBounds_ne this]
theorem wp_region_gen {id n : Nat} {l : List Oper} {Q : Exit → Act → World → Prop} {w : World} (hm : P.follows .mixedOrders = true) (hB : settledB l.toArray n = true) (hn : a0.tmps.size = n)
    (h : OwedGs P l.toArray Γ C a0 0 l) (h0 : C (Array.replicate l.length false) a0 w.drew)
    (hQ : ∀ (a : Act) (w : World) (listed : Array Bool), listed.size = l.length → (∀ i, i < l.length → listed.getD i false = true) → C listed a w → a = putsOf l (slot a) a0 → (∀ o ∈ l, ∀ d, o.dst = some d → Γ d (slot a d) w) → Q .normal a w) : (Code.region id l.toArray true).wp P Q a0 w := by
  refine wp_region_any hm (wpAny_gen (P := P) (Γ := Γ) (C := C) (n := n) hB hn (fun i o hi => ?_) (fun a w listed hs hall hC he hg => hQ a w listed (by simpa using hs) (fun i hi => hall i (by simpa using hi)) hC he (fun o ho => hg o (by simpa using ho))) _ _ _ _ ?_ (by simpa using h0) ?_)
  · have := owedgs_all h i o (by simpa using hi)
    rwa [Nat.zero_add] at this
  · exact ⟨trivial, by simp, rfl, rfl, fun j o d hj _ hl => absurd hl (by rw [none_yet]; decide), fun j o hj hl => absurd hl (by rw [none_yet]; decide), fun _ _ => rfl⟩
  · simp
end
end Go.Proofs.Ytkagonijkalicaa

/-
  A region that draws its order, whose last operation waits for all others: what is said of a temporary need stay true only as long as some operation that is still to come looks at it. So appends onto a row of the call's own, one behind the other, are borne.
-/
namespace Go.Proofs.Ytkagonijkalicaa
open Go.RowKit

section
variable {P : Program} {ops : Array Oper} {Γ : Tmp → Value → World → Prop} {C : World → Prop} {a0 : Act}

/-- It waits for the j-th, be it by way of others. -/
def waitsFar (ops : Array Oper) : Nat → Oper → Nat → Bool
  | 0, o, j => waitsFor o j
  | f + 1, o, j => waitsFor o j || o.after.any fun e => Region.binds .any e && ((ops[e.on]?).map fun p => waitsFar ops f p j).getD false
theorem far_listed {listed : Array Bool} (hcl : ∀ (j : Nat) (o : Oper), ops[j]? = some o → listed.getD j false = true → ∀ e ∈ o.after, Region.binds .any e = true → listed.getD e.on false = true) :
    ∀ (f : Nat) (o : Oper) (j : Nat), (∀ e ∈ o.after, Region.binds .any e = true → listed.getD e.on false = true) → waitsFar ops f o j = true → listed.getD j false = true
  | 0, o, j, ho, h => by
    obtain ⟨e, he, hbn, hon⟩ := waits_iff.1 h
    rw [← hon]
    exact ho e he hbn
  | f + 1, o, j, ho, h => by
    unfold waitsFar at h
    rw [Bool.or_eq_true] at h
    rcases h with h | h
    · obtain ⟨e, he, hbn, hon⟩ := waits_iff.1 h
      rw [← hon]
      exact ho e he hbn
    · rw [Array.any_eq_true'] at h
      obtain ⟨e, he, h⟩ := h
      rw [Bool.and_eq_true] at h
      cases hp : ops[e.on]? with
      | none => rw [hp] at h; simp at h
      | some p =>
        rw [hp] at h
        exact far_listed hcl f p j (fun e' he' hb' => hcl e.on p hp (ho e he h.1) e' he' hb') (by simpa using h.2)

/-- Some operation that is still to come looks at it. -/
def Needed (ops : Array Oper) (listed : Array Bool) (t : Tmp) : Prop := ∃ (i : Nat) (o : Oper), ops[i]? = some o ∧ listed.getD i false = false ∧ t ∈ o.looksAt ops
/-- Some operation that writes it waits for the i-th. -/
def laterB (ops : Array Oper) (i : Nat) (t : Tmp) : Bool := (List.range ops.size).any fun j => ((ops[j]?).map fun p => p.dst == some t && waitsFar ops 8 p i).getD false
/-- .. as a Bool, of an operation that comes: an other one than itself, and than those for which it waits; and what is looked at is there already. -/
def lives (ops : Array Oper) (i : Nat) (o : Oper) (t : Tmp) : Bool :=
  o.dst != some t && !laterB ops i t && (List.range ops.size).any fun j => j != i && !waitsFar ops 8 o j && ((ops[j]?).map fun p => (p.looksAt ops).contains t).getD false

structure ThroughL (ops : Array Oper) (Γ : Tmp → Value → World → Prop) (C : World → Prop) (a0 : Act) (listed : Array Bool) (a : Act) (w : World) : Prop where
  world : C w
  size : listed.size = ops.size
  defers : a.defers = a0.defers
  slots : a.tmps.size = a0.tmps.size
  good : ∀ (j : Nat) (o : Oper) (d : Tmp), ops[j]? = some o → o.dst = some d → listed.getD j false = true → Needed ops listed d → Γ d (slot a d) w
  closed : ∀ (j : Nat) (o : Oper), ops[j]? = some o → listed.getD j false = true → ∀ e ∈ o.after, Region.binds .any e = true → listed.getD e.on false = true
  rest : ∀ t, (∀ (j : Nat) (o : Oper), ops[j]? = some o → listed.getD j false = true → o.dst ≠ some t) → slot a t = slot a0 t

/-- What is owed of the i-th operation. -/
def OwedL (P : Program) (ops : Array Oper) (Γ : Tmp → Value → World → Prop) (C : World → Prop) (a0 : Act) (i : Nat) (o : Oper) : Prop :=
  ∀ a w, C w → Known ops Γ a0 o a w → Region.wanted o (yielded ops a.tmps) = true ∧
    o.wp P a w (fun a' w' => ∃ v, a' = a.put o.dst v ∧ C w' ∧ (∀ t u, lives ops i o t = true → Γ t u w → Γ t u w') ∧ ∀ d, o.dst = some d → Γ d v w') (fun _ _ _ => False)

theorem ThroughL.known {n : Nat} (hB : settledB ops n = true) {listed : Array Bool} {a : Act} {w : World} (h : ThroughL ops Γ C a0 listed a w) {i : Nat} {o : Oper} (hi : ops[i]? = some o)
    (hr : i ∈ Region.ready .any ops listed) : Known ops Γ a0 o a w := by
  obtain ⟨hun, o', ho', hall⟩ := mem_ready.1 hr
  rw [hi] at ho'
  cases ho'
  obtain ⟨_, _, hl⟩ := settled_spec hB hi
  intro t ht
  split
  · rename_i hb
    obtain ⟨j, p, hp, hpt, hw⟩ := before_iff.1 hb
    obtain ⟨e, he, hbn, hon⟩ := waits_iff.1 hw
    exact h.good j p t hp hpt (by rw [← hon]; exact hall e he hbn) ⟨i, o, hi, (getD_of_ready hun).1, ht⟩
  · rename_i hb
    refine h.rest t fun j p hp hlj hpt => ?_
    rcases hl t ht j p hp hpt with hw | hw
    · exact hb (before_iff.2 ⟨j, p, hp, hpt, hw⟩)
    · obtain ⟨e, he, hbn, hon⟩ := waits_iff.1 hw
      have hli := h.closed j p hp hlj e he hbn
      rw [hon, (getD_of_ready hun).1] at hli
      cases hli

theorem ThroughL.step {n : Nat} (hB : settledB ops n = true) (hn : a0.tmps.size = n) {listed : Array Bool} {a : Act} {w w' : World} (h : ThroughL ops Γ C a0 listed a w) {i : Nat} {o : Oper} (hi : ops[i]? = some o)
    (hr : i ∈ Region.ready .any ops listed) {v : Value} (hC : C w') (hx : ∀ t u, lives ops i o t = true → Γ t u w → Γ t u w') (hg : ∀ d, o.dst = some d → Γ d v w') : ThroughL ops Γ C a0 (listed.setIfInBounds i true) (a.put o.dst v) w' := by
  obtain ⟨_, hd, _⟩ := settled_spec hB hi
  obtain ⟨hun, o', ho', hall⟩ := mem_ready.1 hr
  rw [hi] at ho'
  cases ho'
  have hil := (getD_of_ready hun).2
  have hold : ∀ (t : Tmp) (j : Nat) (q : Oper), ops[j]? = some q → q.dst = some t → listed.getD j false = true → o.dst ≠ some t → Needed ops (listed.setIfInBounds i true) t → Needed ops listed t ∧ lives ops i o t = true := by
    rintro t j q hq hqt hlj hot ⟨k, p, hp, hk, ht⟩
    have hlat : laterB ops i t = false := by
      cases hb : laterB ops i t with
      | false => rfl
      | true =>
        exfalso
        unfold laterB at hb
        rw [List.any_eq_true] at hb
        obtain ⟨m, _, hm⟩ := hb
        cases hom : ops[m]? with
        | none => rw [hom] at hm; simp at hm
        | some r =>
          rw [hom] at hm
          simp only [Option.map_some, Option.getD_some, Bool.and_eq_true, beq_iff_eq] at hm
          by_cases hmj : m = j
          · subst hmj
            rw [hq] at hom
            cases hom
            have := far_listed h.closed 8 q i (fun e he hbn => h.closed m q hq hlj e he hbn) hm.2
            rw [(getD_of_ready hun).1] at this
            cases this
          · obtain ⟨_, hd2, _⟩ := settled_spec hB hq
            exact (hd2 t hqt).2.2 m r hom hmj hm.1
    have hki : k ≠ i := by
      rintro rfl
      rw [show (listed.setIfInBounds k true).getD k false = true by simp [hil]] at hk
      cases hk
    rw [getD_set_ne false hki.symm] at hk
    refine ⟨⟨k, p, hp, hk, ht⟩, ?_⟩
    unfold lives
    rw [Bool.and_eq_true, Bool.and_eq_true]
    refine ⟨⟨by simp [hot], by simp [hlat]⟩, ?_⟩
    rw [List.any_eq_true]
    refine ⟨k, List.mem_range.2 (Array.getElem?_eq_some_iff.1 hp).1, ?_⟩
    have hnw : waitsFar ops 8 o k = false := by
      cases hw : waitsFar ops 8 o k with
      | false => rfl
      | true =>
        have := far_listed h.closed 8 o k (fun e he hbn => hall e he hbn) hw
        rw [hk] at this
        cases this
    simp [hki, hnw, hp, ht]
  refine ⟨hC, by simpa using h.size, ?_, by rw [size_put]; exact h.slots, fun j p d hp hpd hlj hnd => ?_, fun j p hp hlj e he hb => ?_, fun t ht => ?_⟩
  · rw [← h.defers]; cases o.dst <;> rfl
  · by_cases hji : j = i
    · subst hji
      rw [hi] at hp
      cases hp
      rw [hpd, slot_put (by rw [h.slots, hn]; exact (hd d hpd).1), if_pos rfl]
      exact hg d hpd
    · rw [getD_set_ne false (Ne.symm hji)] at hlj
      have hod : o.dst ≠ some d := fun he => (hd d he).2.2 j p hp hji hpd
      obtain ⟨hnd1, hlv⟩ := hold d j p hp hpd hlj hod hnd
      have h1 := hx d _ hlv (h.good j p d hp hpd hlj hnd1)
      cases ho : o.dst with
      | none => exact h1
      | some e =>
        rw [slot_put (by rw [h.slots, hn]; exact (hd e ho).1), if_neg]
        · exact h1
        · rintro rfl
          exact (hd e ho).2.2 j p hp hji hpd
  · by_cases hji : j = i
    · subst hji
      rw [hi] at hp
      cases hp
      exact getD_set_true (hall e he hb)
    · rw [getD_set_ne false (Ne.symm hji)] at hlj
      exact getD_set_true (h.closed j p hp hlj e he hb)
  · have hti : o.dst ≠ some t := ht i o hi (by simp [hil])
    have hold2 : slot a t = slot a0 t := h.rest t fun j p hp hlj => ht j p hp (getD_set_true hlj)
    cases ho : o.dst with
    | none => exact hold2
    | some e =>
      rw [slot_put (by rw [h.slots, hn]; exact (hd e ho).1), if_neg (fun he => hti (by rw [ho, he]))]
      exact hold2
end

/-- The last one waits for all others. -/
def lastB (l : List Oper) (o : Oper) : Bool := (List.range l.length).all fun i => waitsFar (l ++ [o]).toArray 8 o i
section
variable {P : Program} {Γ : Tmp → Value → World → Prop} {C : World → Prop} {a0 : Act}

theorem wpAny_live {n : Nat} {l : List Oper} {o : Oper} {Q : Exit → Act → World → Prop} (hB : settledB (l ++ [o]).toArray n = true) (hL : lastB l o = true) (hn : a0.tmps.size = n) (h : ∀ i p, l[i]? = some p → OwedL P (l ++ [o]).toArray Γ C a0 i p)
    (hQ : ∀ (vs : Tmp → Value) (w : World), C w → (∀ p ∈ l, ∀ d, p.dst = some d → d ∈ o.looksAt (l ++ [o]).toArray → Γ d (vs d) w) → Region.wanted o (yielded (l ++ [o]).toArray (putsOf l vs a0).tmps) = true ∧ o.wp P (putsOf l vs a0) w (fun a' w' => Q .normal a' w') (fun _ _ _ => False)) :
    ∀ (fuel : Nat) (listed : Array Bool) (a : Act) (w : World), ThroughL (l ++ [o]).toArray Γ C a0 listed a w → listed.getD l.length false = false → listed.toList.count false = fuel → wpAny P .any (l ++ [o]).toArray Q fuel listed a w := by
  have hsz : (l ++ [o]).toArray.size = l.length + 1 := by simp
  have hoL : (l ++ [o]).toArray[l.length]? = some o := by simp
  intro fuel
  induction fuel with
  | zero =>
    intro listed a w ht hun hc
    exfalso
    have hlt : l.length < listed.size := by rw [ht.size, hsz]; omega
    have hm : false ∈ listed.toList := by
      have h1 := hun
      simp [hlt] at h1
      rw [← h1]
      exact Array.mem_toList_iff.2 (Array.getElem_mem hlt)
    rw [List.count_eq_zero] at hc
    exact hc hm
  | succ fuel ih =>
    intro listed a w ht hun hc
    refine ⟨fun hr => ?_, fun i hi => ?_⟩
    · have := ready_some hB ht.size hr l.length (by rw [hsz]; omega)
      rw [hun] at this
      cases this
    have hni := getD_of_ready (mem_ready.1 hi).1
    have hc' : (listed.setIfInBounds i true).toList.count false = fuel := by
      have hset : (listed.setIfInBounds i true).toList = listed.toList.set i true := by simp
      have hget : listed.toList[i]'(by simpa using hni.2) = false := by
        have := hni.1
        simpa [hni.2] using this
      rw [hset, List.count_set (by simpa using hni.2), hget]
      simp [hc]
    obtain ⟨_, p, hp, hall⟩ := mem_ready.1 hi
    have hk := ht.known hB hp hi
    by_cases hil : i = l.length
    · subst hil
      rw [hoL] at hp
      cases hp
      have hlisted : ∀ j, j < l.length → listed.getD j false = true := by
        intro j hj
        unfold lastB at hL
        have hw := List.all_eq_true.1 hL j (List.mem_range.2 hj)
        exact far_listed ht.closed 8 o j (fun e he hbn => hall e he hbn) hw
      have hmem : ∀ q ∈ l, ∃ j, j < l.length ∧ (l ++ [o]).toArray[j]? = some q := by
        intro q hq
        obtain ⟨j, hj, rfl⟩ := List.getElem_of_mem hq
        exact ⟨j, hj, by simp [List.getElem?_append_left hj, List.getElem?_eq_getElem hj]⟩
      have hfr : a = putsOf l (slot a) a0 := by
        refine slot_ext (by rw [size_putsOf]; exact ht.slots) (by rw [defers_putsOf]; exact ht.defers) fun t => ?_
        rw [slot_putsOf]
        · split
          · rfl
          · rename_i hno
            refine ht.rest t fun j q hq hlj hqt => hno ?_
            rw [List.any_eq_true]
            have hj : j < l.length := by
              have h1 := (Array.getElem?_eq_some_iff.1 hq).1
              rw [hsz] at h1
              rcases Nat.lt_or_ge j l.length with h2 | h2
              · exact h2
              · have : j = l.length := by omega
                subst this
                rw [hun] at hlj
                cases hlj
            have hq2 : l[j]? = some q := by simpa [List.getElem?_append_left hj] using hq
            exact ⟨q, List.mem_of_getElem? hq2, by simp [hqt]⟩
        · intro q hq d hd
          obtain ⟨j, _, hj⟩ := hmem q hq
          rw [hn]
          exact ((settled_spec hB hj).2.1 d hd).1
      obtain ⟨q1, q2⟩ := hQ (slot a) w ht.world fun q hq d hd hlook => by
        obtain ⟨j, hjl, hj⟩ := hmem q hq
        exact ht.good j q d hj hd (hlisted j hjl) ⟨l.length, o, hoL, hun, hlook⟩
      rw [← hfr] at q1 q2
      unfold wpOp
      simp only [hoL]
      rw [if_pos q1]
      refine .inl (wp_all q2 fun a' w' hq => ?_)
      have hready : Region.ready .any (l ++ [o]).toArray (listed.setIfInBounds l.length true) = [] := by
        refine List.eq_nil_iff_forall_not_mem.2 fun j hj => ?_
        have hj1 := getD_of_ready (mem_ready.1 hj).1
        have hjs : j < l.length + 1 := by have := hj1.2; rw [Array.size_setIfInBounds, ht.size, hsz] at this; exact this
        by_cases hjl : j = l.length
        · subst hjl
          have := hj1.1
          rw [show (listed.setIfInBounds l.length true).getD l.length false = true by simp [hni.2]] at this
          cases this
        · have := hj1.1
          rw [getD_set_ne false (Ne.symm hjl), hlisted j (by omega)] at this
          cases this
      cases fuel with
      | zero => exact ⟨hready, hq⟩
      | succ f => exact ⟨fun _ => hq, fun j hj => by rw [hready] at hj; simp at hj⟩
    · have hpl : l[i]? = some p := by
        have h1 := (Array.getElem?_eq_some_iff.1 hp).1
        rw [hsz] at h1
        simpa [List.getElem?_append_left (show i < l.length by omega)] using hp
      obtain ⟨hw, hob⟩ := h i p hpl a w ht.world hk
      unfold wpOp
      simp only [hp]
      rw [if_pos hw]
      refine .inl (wp_all hob ?_)
      rintro a' w' ⟨v, rfl, hC, hx, hg⟩
      exact ih _ _ _ (ht.step hB hn hp hi hC hx hg) (by rw [getD_set_ne false hil]; exact hun) hc'

theorem owedl_of {ops : Array Oper} {i : Nat} {o : Oper} {d : Tmp} (hg : o.guard = none) (hd : o.dst = some d)
    (h : ∀ a w, C w → Known ops Γ a0 o a w → ∀ K : Act → World → Prop, (∀ v w', C w' → (∀ t u, lives ops i o t = true → Γ t u w → Γ t u w') → Γ d v w' → K (a.put (some d) v) w') → o.wp P a w K (fun _ _ _ => False)) : OwedL P ops Γ C a0 i o := by
  intro a w hC hK
  refine ⟨by simp [Region.wanted, hg], h a w hC hK _ fun v w' hC' hx hG => ⟨v, by rw [hd], hC', hx, fun e he => ?_⟩⟩
  rw [hd] at he
  cases he
  exact hG
theorem owedl_val {ops : Array Oper} {i : Nat} {o : Oper} {d : Tmp} (c : Value) (hg : o.guard = none) (hd : o.dst = some d) (hG : ∀ w, Γ d c w)
    (h : ∀ a w, C w → Known ops Γ a0 o a w → (execOp a.eval o).run P w = .ok (.value c) w) : OwedL P ops Γ C a0 i o :=
  owedl_of hg hd fun a w hC hK K hk => by
    have hr := hk _ w hC (fun _ _ _ h => h) (hG w)
    unfold Oper.wp
    rw [h a w hC hK, ← hd] at *
    exact hr
theorem owedl_move {ops : Array Oper} {i : Nat} {o : Oper} {d t : Tmp} (hg : o.guard = none) (hd : o.dst = some d) (ho : o.op = .move (.tmp t) ∨ o.op = .assign (.tmp t))
    (h : ∀ a w, C w → Known ops Γ a0 o a w → Γ d (slot a t) w) : OwedL P ops Γ C a0 i o :=
  owedl_of hg hd fun a w hC hK K hk => by
    have hr := hk _ w hC (fun _ _ _ h => h) (h a w hC hK)
    unfold Oper.wp execOp
    rcases ho with ho | ho <;> simp only [ho, Sem.run_pure, Oper.upon, eval_slot] <;> rw [hd] <;> exact hr
/-- Of each operation of a list but its last, from the i-th on. -/
def OwedLs (P : Program) (ops : Array Oper) (Γ : Tmp → Value → World → Prop) (C : World → Prop) (a0 : Act) : Nat → List Oper → Prop
  | _, [] => True
  | _, [_] => True
  | i, o :: p :: r => OwedL P ops Γ C a0 i o ∧ OwedLs P ops Γ C a0 (i + 1) (p :: r)
theorem owedls_all {ops : Array Oper} : ∀ {l : List Oper} {k : Nat}, OwedLs P ops Γ C a0 k l → ∀ i p, l.dropLast[i]? = some p → OwedL P ops Γ C a0 (k + i) p
  | [], _, _, _, _, hp => by simp at hp
  | [_], _, _, _, _, hp => by simp at hp
  | o :: q :: r, k, h, 0, p, hp => by
    obtain rfl : o = p := by simpa using hp
    exact h.1
  | o :: q :: r, k, h, i + 1, p, hp => by
    have := owedls_all h.2 i p (by simpa using hp)
    rwa [show k + 1 + i = k + (i + 1) by omega] at this
/-- What is said of three temporaries, and that all others hold one value. -/
def Said3 (t1 t2 t3 : Tmp) (G1 G2 G3 : Value → World → Prop) (v : Tmp → Value) : Tmp → Value → World → Prop := fun t u w =>
  if t = t1 then G1 u w else if t = t2 then G2 u w else if t = t3 then G3 u w else u = v t
theorem not_lives {b : Bool} {p : Prop} (hb : b = false) (h : b = true) : p := by rw [hb] at h; cases h
theorem said3_kept {t1 t2 t3 : Tmp} {G1 G2 G3 : Value → World → Prop} {v : Tmp → Value} {w w' : World} {ops : Array Oper} {i : Nat} {o : Oper} (h1 : lives ops i o t1 = true → ∀ u, G1 u w → G1 u w') (h2 : lives ops i o t2 = true → ∀ u, G2 u w → G2 u w') (h3 : lives ops i o t3 = true → ∀ u, G3 u w → G3 u w') :
    ∀ t u, lives ops i o t = true → Said3 t1 t2 t3 G1 G2 G3 v t u w → Said3 t1 t2 t3 G1 G2 G3 v t u w' := by
  intro t u hl h
  unfold Said3 at *
  split at h
  · rename_i he
    rw [if_pos he]
    exact h1 (by rwa [he] at hl) u h
  · rename_i hn
    rw [if_neg hn]
    split at h
    · rename_i he
      rw [if_pos he]
      exact h2 (by rwa [he] at hl) u h
    · rename_i hn
      rw [if_neg hn]
      split at h
      · rename_i he
        rw [if_pos he]
        exact h3 (by rwa [he] at hl) u h
      · rename_i hn
        rw [if_neg hn]
        exact h

/-- THE RULE. -/
theorem wp_region_live {id n : Nat} {l : List Oper} {o : Oper} {Q : Exit → Act → World → Prop} {w : World} (hm : P.follows .mixedOrders = true) (hB : settledB (l ++ [o]).toArray n = true) (hL : lastB l o = true) (hn : a0.tmps.size = n) (hC : C w.drew)
    (h : ∀ i p, l[i]? = some p → OwedL P (l ++ [o]).toArray Γ C a0 i p)
    (hQ : ∀ (vs : Tmp → Value) (w : World), C w → (∀ p ∈ l, ∀ d, p.dst = some d → d ∈ o.looksAt (l ++ [o]).toArray → Γ d (vs d) w) → Region.wanted o (yielded (l ++ [o]).toArray (putsOf l vs a0).tmps) = true ∧ o.wp P (putsOf l vs a0) w (fun a' w' => Q .normal a' w') (fun _ _ _ => False)) :
    (Code.region id (l ++ [o]).toArray true).wp P Q a0 w := by
  refine wp_region_any hm (wpAny_live (C := C) (Γ := Γ) (n := n) hB hL hn h hQ _ _ _ _ ?_ (none_yet _ _) ?_)
  · exact ⟨hC, by simp, rfl, rfl, fun j o d hj _ hl => absurd hl (by rw [none_yet]; decide), fun j o hj hl => absurd hl (by rw [none_yet]; decide), fun _ _ => rfl⟩
  · simp

/-- It is yielded ahead of the last operation, which looks at it. -/
def looksB (ops : Array Oper) (o : Oper) (d : Tmp) : Bool := (ops.toList.dropLast.any fun p => p.dst == some d) && (o.looksAt ops).contains d
theorem wp_region_live2 {id n : Nat} {ops : Array Oper} {o : Oper} {Q : Exit → Act → World → Prop} {w : World} (ho : ops.toList.getLast? = some o) (hm : P.follows .mixedOrders = true) (hB : settledB ops n = true) (hL : lastB ops.toList.dropLast o = true) (hn : a0.tmps.size = n) (hC : C w.drew)
    (h : OwedLs P ops Γ C a0 0 ops.toList)
    (hQ : ∀ (vs : Tmp → Value) (w : World), C w → (∀ d, looksB ops o d = true → Γ d (vs d) w) → Region.wanted o (yielded ops (putsOf ops.toList.dropLast vs a0).tmps) = true ∧ o.wp P (putsOf ops.toList.dropLast vs a0) w (fun a' w' => Q .normal a' w') (fun _ _ _ => False)) :
    (Code.region id ops true).wp P Q a0 w := by
  have he : (ops.toList.dropLast ++ [o]).toArray = ops := by
    have h1 : ops.toList.dropLast ++ [o] = ops.toList := by
      have h2 : ops.toList ≠ [] := by intro h3; rw [h3] at ho; simp at ho
      have h3 : ops.toList.getLast h2 = o := by rw [List.getLast?_eq_some_getLast h2] at ho; injection ho
      rw [← h3]
      exact List.dropLast_concat_getLast h2
    rw [h1]
  have hr := wp_region_live (P := P) (id := id) (l := ops.toList.dropLast) (o := o) (Q := Q) (w := w) (Γ := Γ) (C := C) (a0 := a0) (n := n) hm (by rw [he]; exact hB) hL hn hC
    (fun i p hp => by rw [he]; have := owedls_all h i p hp; rwa [Nat.zero_add] at this)
    (fun vs w' hC' hg => by
      rw [he]
      refine hQ vs w' hC' fun d hd => ?_
      unfold looksB at hd
      rw [Bool.and_eq_true, List.any_eq_true] at hd
      obtain ⟨⟨p, hp, hpd⟩, hl⟩ := hd
      exact hg p hp d (by simpa using hpd) (by rw [he]; simpa using hl))
  rwa [he] at hr
theorem puts_in {l : List Oper} {vs : Tmp → Value} {n : Nat} {t : Tmp} (hn : a0.tmps.size = n) (h : ((l.all fun p => (p.dst.map fun d => decide (d < n)).getD true) && l.any fun p => p.dst == some t) = true) : slot (putsOf l vs a0) t = vs t := by
  rw [Bool.and_eq_true] at h
  rw [slot_putsOf _ _ _ _ (fun o ho d hd => by
    have := List.all_eq_true.1 h.1 o ho
    rw [hd] at this
    rw [hn]
    simpa using this)]
  rw [if_pos h.2]
/-- The value of a temporary, of a list. -/
def pickV : List (Tmp × Value) → Tmp → Value
  | [], _ => undef
  | (s, v) :: r, t => if s = t then v else pickV r t
section
variable {t1 t2 t3 : Tmp} {G1 G2 G3 : Value → World → Prop} {v : Tmp → Value} {u : Value} {w : World}
theorem said3_1 (h : G1 u w) : Said3 t1 t2 t3 G1 G2 G3 v t1 u w := by unfold Said3; rw [if_pos rfl]; exact h
theorem said3_2 (hn : t2 ≠ t1) (h : G2 u w) : Said3 t1 t2 t3 G1 G2 G3 v t2 u w := by unfold Said3; rw [if_neg hn, if_pos rfl]; exact h
theorem said3_3 (hn : t3 ≠ t1) (hm : t3 ≠ t2) (h : G3 u w) : Said3 t1 t2 t3 G1 G2 G3 v t3 u w := by unfold Said3; rw [if_neg hn, if_neg hm, if_pos rfl]; exact h
theorem un3_1 (h : Said3 t1 t2 t3 G1 G2 G3 v t1 u w) : G1 u w := by unfold Said3 at h; rwa [if_pos rfl] at h
theorem un3_2 (hn : t2 ≠ t1) (h : Said3 t1 t2 t3 G1 G2 G3 v t2 u w) : G2 u w := by unfold Said3 at h; rwa [if_neg hn, if_pos rfl] at h
theorem un3_3 (hn : t3 ≠ t1) (hm : t3 ≠ t2) (h : Said3 t1 t2 t3 G1 G2 G3 v t3 u w) : G3 u w := by unfold Said3 at h; rwa [if_neg hn, if_neg hm, if_pos rfl] at h
theorem un3_v {t : Tmp} (h : Said3 t1 t2 t3 G1 G2 G3 v t u w) (hn : t ≠ t1 ∧ t ≠ t2 ∧ t ≠ t3) : u = v t := by unfold Said3 at h; rwa [if_neg hn.1, if_neg hn.2.1, if_neg hn.2.2] at h
theorem said3_v {t : Tmp} (h : t ≠ t1 ∧ t ≠ t2 ∧ t ≠ t3) : Said3 t1 t2 t3 G1 G2 G3 v t u w ↔ u = v t := by unfold Said3; rw [if_neg h.1, if_neg h.2.1, if_neg h.2.2]
end
/-- .. and of a fourth one. -/
def Said4 (t0 : Tmp) (G0 : Value → World → Prop) (R : Tmp → Value → World → Prop) : Tmp → Value → World → Prop := fun t u w => if t = t0 then G0 u w else R t u w
section
variable {t0 : Tmp} {G0 : Value → World → Prop} {R : Tmp → Value → World → Prop} {u : Value} {w : World}
theorem said4_at (h : G0 u w) : Said4 t0 G0 R t0 u w := by unfold Said4; rw [if_pos rfl]; exact h
theorem un4_at (h : Said4 t0 G0 R t0 u w) : G0 u w := by unfold Said4 at h; rwa [if_pos rfl] at h
theorem said4_off {t : Tmp} (hn : t ≠ t0) (h : Said4 t0 G0 R t u w) : R t u w := by unfold Said4 at h; rwa [if_neg hn] at h
theorem said4_on {t : Tmp} (hn : t ≠ t0) (h : R t u w) : Said4 t0 G0 R t u w := by unfold Said4; rw [if_neg hn]; exact h
theorem said4_kept {w w' : World} {ops : Array Oper} {i : Nat} {o : Oper} (h0 : lives ops i o t0 = true → ∀ u, G0 u w → G0 u w') (h : ∀ t u, lives ops i o t = true → R t u w → R t u w') :
    ∀ t u, lives ops i o t = true → Said4 t0 G0 R t u w → Said4 t0 G0 R t u w' := by
  intro t u hl hs
  unfold Said4 at *
  split at hs
  · rename_i he
    rw [if_pos he]
    exact h0 (by rwa [he] at hl) u hs
  · rename_i hn
    rw [if_neg hn]
    exact h t u hl hs
end
theorem rd_of_blk {w : World} {g n sz : Nat} {t : TypeId} {xs : List Value} (h : Blk w g t xs.toArray) (hl : xs.length = n * sz) : Rd w (g + 1) sz (some ⟨g, 0, none⟩) n xs := by
  refine ⟨hl, .inr ⟨_, rfl, Nat.lt_succ_self _, fun j u hj => ?_⟩⟩
  have hadd : (⟨g, 0, none⟩ : Addr).add j = ⟨g, j, none⟩ := by unfold Addr.add; split <;> simp_all
  rw [hadd, h.cell]
  simpa using hj
theorem wp_append_rd {o : Oper} {a : Act} {w : World} {K : Act → World → Prop} {Q : Exit → Act → World → Prop} (s x : Operand) (t : TypeId)
    (ho : o.op = .call { callee := .builtin .append, args := #[s, x], argTypes := #[t, t] })
    (base : Nat) (e : TypeId) (i : TypeInfo) (z : Value) (size bytes : Nat) (ht : P.underlying t = some (.slice e)) (hi : P.info? e = some i) (hz : i.zero = some z)
    (hsize : i.size = size) (hby : i.bytes = bytes) (hzs : z.cells.size = size) (hsz : 0 < size) (v : Value) (n : Nat) (xs : List Value) (hs : a.eval s = v) (hown : w.ownsRow base e size v n xs)
    (B : Nat) (A : Option Addr) (m c : Nat) (news : List Value) (hx : a.eval x = .slice A m c) (hr : Rd w B size A m news) (h1 : ∀ u ∈ news, u.oneCell' = true) (h63 : n + m ≤ maxLen) (hbytes : (n + m) * bytes ≤ 140737488355328) (hbase : base ≤ w.heap.size)
    (h : ∀ v' w', w'.ownsRow base e size v' (n + m) (xs ++ news) → w.grownBy w' v.ownBlock → K (a.put o.dst v') w') : Oper.wp P o a w K Q := by
  obtain ⟨v', w', hrun, h2, h3⟩ := run_append_rd (P := P) w base t o.type e i z size bytes ht hi hz hsize hby hzs hsz v n xs hown B A m c news hr h1 h63 hbytes hbase
  unfold Oper.wp
  simp [execOp, ho, resolve, invoke, builtin, hs, hx, hrun, Result.andThen]
  exact h v' w' h2 h3
end
end Go.Proofs.Ytkagonijkalicaa

/-
  A region that draws its order and holds one store to memory of its own: what comes behind the store leaves the world alone.
-/
namespace Go.Proofs.Ytkagonijkalicaa
open Go.RowKit

section
variable {P : Program} {ops : Array Oper} {Γ : Tmp → Value → World → Prop} {a0 : Act} {w0 : World} {st : Nat} {p : Tmp} {ty : TypeId} {cs : Array Value}

/-- Where the store is through, the block holds what was stored. -/
def OneC (w0 : World) (st : Nat) (p : Tmp) (ty : TypeId) (cs : Array Value) (listed : Array Bool) (a : Act) (w : World) : Prop :=
  Below w0.heap.size w0 w ∧ (listed.getD st false = true → ∃ g, slot a p = .pointer (some ⟨g, 0, none⟩) ∧ w0.heap.size ≤ g ∧ Blk w g ty cs)

theorem owedO_ahead {i : Nat} {o : Oper} {d : Tmp} (hg : o.guard = none) (hd : o.dst = some d) (hne : i ≠ st) (hf : ((ops[st]?).map fun q => waitsFar ops 8 q i) = some true) (hG : ∀ t v w w', Below w.heap.size w w' → Γ t v w → Γ t v w')
    (h : ∀ a w, Below w0.heap.size w0 w → Known ops Γ a0 o a w → ∀ K : Act → World → Prop, (∀ v w', Below w.heap.size w w' → Γ d v w' → K (a.put (some d) v) w') → o.wp P a w K (fun _ _ _ => False)) : OwedG P ops Γ (OneC w0 st p ty cs) a0 i o := by
  intro listed a w hs hso hsz hC hl hcl ha hK
  refine ⟨by simp [Region.wanted, hg], h a w hC.1 hK _ fun v w' hx hv => ⟨v, by rw [hd], ⟨hC.1.trans (hx.mono hC.1.size), fun hst => ?_⟩, fun t u => hG t u w w' hx, fun e he => by rw [hd] at he; cases he; exact hv⟩⟩
  exfalso
  rw [getD_set_ne false hne] at hst
  cases hq : ops[st]? with
  | none => rw [hq] at hf; cases hf
  | some q =>
    rw [hq] at hf
    have := far_listed hcl 8 q i (fun e he hb => hcl st q hq hst e he hb) (Option.some.inj hf)
    rw [hl] at this
    cases this
theorem owedO_val {i : Nat} {o : Oper} {d : Tmp} (c : Value) (hg : o.guard = none) (hd : o.dst = some d) (hne : i ≠ st) (hf : ((ops[st]?).map fun q => waitsFar ops 8 q i) = some true) (hG : ∀ t v w w', Below w.heap.size w w' → Γ t v w → Γ t v w') (hv : ∀ w, Γ d c w)
    (h : ∀ a w, Below w0.heap.size w0 w → Known ops Γ a0 o a w → (execOp a.eval o).run P w = .ok (.value c) w) : OwedG P ops Γ (OneC w0 st p ty cs) a0 i o :=
  owedO_ahead hg hd hne hf hG fun a w hb hK K hk => by
    have hr := hk c w (Below.refl _ _) (hv w)
    unfold Oper.wp
    rw [h a w hb hK]
    rw [← hd] at hr
    exact hr
theorem owedO_quiet {i : Nat} {o : Oper} {d : Tmp} (c : Value) (hg : o.guard = none) (hd : o.dst = some d) (hne : i ≠ st) (hp : d ≠ p) (hv : ∀ w, Γ d c w)
    (h : ∀ a w, Below w0.heap.size w0 w → Known ops Γ a0 o a w → (execOp a.eval o).run P w = .ok (.value c) w) : OwedG P ops Γ (OneC w0 st p ty cs) a0 i o := by
  intro listed a w hs hso hsz hC hl hcl ha hK
  refine ⟨by simp [Region.wanted, hg], ?_⟩
  unfold Oper.wp
  rw [h a w hC.1 hK]
  refine ⟨c, rfl, ⟨hC.1, fun hst => ?_⟩, fun _ _ h => h, fun e he => by rw [hd] at he; cases he; exact hv w⟩
  rw [getD_set_ne false hne] at hst
  obtain ⟨g, h1, h2⟩ := hC.2 hst
  exact ⟨g, by rw [hd, slot_ne (by simpa using hp)]; exact h1, h2⟩
theorem owedO_store {i : Nat} {o : Oper} (hg : o.guard = none) (hd : o.dst = none) (hi : i = st)
    (h : ∀ a w, Below w0.heap.size w0 w → Known ops Γ a0 o a w → ∃ g w', slot a p = .pointer (some ⟨g, 0, none⟩) ∧ w0.heap.size ≤ g ∧ (execOp a.eval o).run P w = .ok .skip w' ∧ Blk w' g ty cs ∧ w.grownBy w' (some g) ∧ ∀ t u, Γ t u w → Γ t u w') : OwedG P ops Γ (OneC w0 st p ty cs) a0 i o := by
  intro listed a w hs hso hsz hC hl hcl ha hK
  obtain ⟨g, w', h1, h2, h3, h4, h5, h6⟩ := h a w hC.1 hK
  refine ⟨by simp [Region.wanted, hg], ?_⟩
  unfold Oper.wp
  rw [h3]
  refine ⟨undef, by rw [hd], ⟨hC.1.grown h5 hC.1.size (fun k hk => by injection hk with hk; omega), fun _ => ⟨g, by rw [hd]; exact h1, h2, h4⟩⟩, h6, fun e he => (by rw [hd] at he; cases he)⟩

theorem exec_store {o : Oper} {a : Act} {w w' : World} {x : Tmp} {u v : Value} (ho : o.op = .store ty (.tmp p) (.tmp x)) (hp : slot a p = u) (hx : slot a x = v) (hrun : (Instr.storeAt ty u v).run P w = .ok () w') : (execOp a.eval o).run P w = .ok .skip w' := by
  unfold execOp
  simp only [ho, eval_slot, hp, hx]
  simp [hrun]
theorem wp_region_one {id n : Nat} {l : List Oper} {Q : Exit → Act → World → Prop} {w : World} (st : Nat) (p : Tmp) (ty : TypeId) (cs : Array Value) (Γ : Tmp → Value → World → Prop) (hm : P.follows .mixedOrders = true) (hB : settledB l.toArray n = true) (hn : a0.tmps.size = n) (hst : st < l.length)
    (h : OwedGs P l.toArray Γ (OneC w.drew st p ty cs) a0 0 l)
    (hQ : ∀ (vs : Tmp → Value) (w' : World) (g : Nat), Below w.heap.size w w' → slot (putsOf l vs a0) p = .pointer (some ⟨g, 0, none⟩) → w.heap.size ≤ g → Blk w' g ty cs → (∀ o ∈ l, ∀ d, o.dst = some d → Γ d (vs d) w') → Q .normal (putsOf l vs a0) w') : (Code.region id l.toArray true).wp P Q a0 w := by
  refine wp_region_gen hm hB hn h ⟨Below.refl _ _, fun h => by rw [none_yet] at h; cases h⟩ (fun a w' listed hs hall hC he hg => ?_)
  obtain ⟨g, h1, h2, h3⟩ := hC.2 (hall st hst)
  rw [he] at h1 ⊢
  exact hQ (slot a) w' g (Below.trans (show Below w.heap.size w w.drew from ⟨rfl, rfl, rfl, Nat.le_refl _, fun _ _ => rfl⟩) hC.1) h1 h2 h3 hg
end
end Go.Proofs.Ytkagonijkalicaa

/-
  Maps that are keyed by ints and lie in memory of the call's own: what they hold, as a function.
-/
namespace Go.Proofs.Ytkagonijkalicaa
open Go.RowKit
open Go.Maps (Keyed int_keyed keyOf_int_mk)

/-- Block b is a map of at most n entries that holds f. -/
def MapI (P : Program) (K : TypeId) (w : World) (b n : Nat) (f : Int → Option Value) : Prop :=
  ∃ D : DataW Value, w.ownsMap P K (fun v => some (.held v, [])) b n D ∧ ∀ i z, D.atKey (.int .i64 i) (.held z) = .held ((f i).getD z) ∧ Maps.has D (.int .i64 i) = (f i).isSome

section
variable {P : Program} {K T E : TypeId} {w w' : World} {b n : Nat} {f : Int → Option Value}

theorem MapI.made (P : Program) (K : TypeId) (w : World) : MapI P K (w.alloc (.map #[] 0)) w.heap.size 0 (fun _ => none) :=
  ⟨.map [], World.ownsMap_made _ _ _ _, fun _ _ => ⟨rfl, rfl⟩⟩
theorem MapI.mono (h : MapI P K w b n f) {m : Nat} (hm : n ≤ m) : MapI P K w b m f := by
  obtain ⟨D, h1, h2⟩ := h
  exact ⟨D, h1.mono hm, h2⟩
theorem MapI.lt (h : MapI P K w b n f) : b < w.heap.size := by
  obtain ⟨D, h1, _⟩ := h
  exact h1.lt
theorem MapI.kept {row : Option Nat} (h : MapI P K w b n f) (hg : w.grownBy w' row) (hne : some b ≠ row) : MapI P K w' b n f := by
  obtain ⟨D, h1, h2⟩ := h
  exact ⟨D, h1.kept hg hne, h2⟩
theorem MapI.alloc (h : MapI P K w b n f) (o : Obj) : MapI P K (w.alloc o) b n f := by
  obtain ⟨D, h1, h2⟩ := h
  exact ⟨D, h1.alloc o, h2⟩
theorem MapI.setCell (h : MapI P K w b n f) {a : Addr} (ha : b ≠ a.block) (u : Value) : MapI P K (w.setCell a u) b n f := by
  obtain ⟨D, h1, h2⟩ := h
  exact ⟨D, h1.setCell ha u, h2⟩
theorem MapI.below {B : Nat} (h : MapI P K w b n f) (hb : Below B w w') (hB : b < B) : MapI P K w' b n f := by
  obtain ⟨D, ⟨es, clock, hh, F, hs, hD⟩, h2⟩ := h
  exact ⟨D, ⟨es, clock, (hb.block b hB).trans hh, F, hs, hD⟩, h2⟩
theorem MapI.drew (h : MapI P K w b n f) : MapI P K w.drew b n f := h

theorem wf_int {i : Int} (h0 : -9223372036854775808 ≤ i) (h1 : i ≤ 9223372036854775807) : (Lit.int .i64 i).wf = true := WalkArith.wf_i64 (by omega)

/-- 'm[k]'. -/
theorem MapI.look (h : MapI P K w b n f) (hK : P.underlying K = some (.int .i64)) (hT : P.underlying T = some (.map K E)) {z : Value} (hz : (zeroValue E).run P w = .ok z w) {i : Int} (h0 : -9223372036854775808 ≤ i) (h1 : i ≤ 9223372036854775807) :
    (Instr.lookup T (.map (some b)) (.int .i64 i) false).run P w = .ok ((f i).getD z) w := by
  obtain ⟨D, hD, hf⟩ := h
  obtain ⟨v, ps, hrun, hv⟩ := hD.lookup (int_keyed hK) hT hz (zd := .held z) (zp := []) rfl (keyOf_int_mk hK (wf_int h0 h1))
  rw [(hf i z).1] at hv
  simp only [Option.some.injEq, Prod.mk.injEq, DataW.held.injEq] at hv
  rw [hrun, hv.1]
/-- 'v, ok := m[k]'. -/
theorem MapI.look_ok (h : MapI P K w b n f) (hK : P.underlying K = some (.int .i64)) (hT : P.underlying T = some (.map K E)) {z : Value} (hz : (zeroValue E).run P w = .ok z w) {i : Int} (h0 : -9223372036854775808 ≤ i) (h1 : i ≤ 9223372036854775807) :
    (Instr.lookup T (.map (some b)) (.int .i64 i) true).run P w = .ok (.tuple #[(f i).getD z, .bool (f i).isSome]) w := by
  obtain ⟨D, hD, hf⟩ := h
  obtain ⟨v, ps, hrun, hv⟩ := hD.look_ok (int_keyed hK) hT hz (zd := .held z) (zp := []) rfl (keyOf_int_mk hK (wf_int h0 h1))
  rw [(hf i z).1] at hv
  simp only [Option.some.injEq, Prod.mk.injEq, DataW.held.injEq] at hv
  rw [hrun, hv.1, (hf i z).2]
/-- What a map holds behind a store. -/
def upd (f : Int → Option Value) (i : Int) (v : Value) : Int → Option Value := fun j => if j = i then some v else f j
theorem MapI.update (h : MapI P K w b n f) (hK : P.underlying K = some (.int .i64)) (hT : P.underlying T = some (.map K E)) (hn : n < maxLen) {i : Int} (h0 : -9223372036854775808 ≤ i) (h1 : i ≤ 9223372036854775807) (v : Value) :
    ∃ w', (Instr.mapUpdate T (.map (some b)) (.int .i64 i) v).run P w = .ok () w' ∧ MapI P K w' b (n + 1) (upd f i v) ∧ w.grownBy w' (some b) := by
  obtain ⟨D, hD, hf⟩ := h
  obtain ⟨w', hrun, hD', hg⟩ := hD.update (int_keyed hK) hT hn (val := v) (d := .held v) (ps := []) (keyOf_int_mk hK (wf_int h0 h1)) rfl
  refine ⟨w', hrun, ⟨_, hD', fun j z => ?_⟩, hg⟩
  by_cases hj : j = i
  · subst hj
    rw [Maps.atKey_put_same (k := .int .i64 j) hD.isMap True.intro, Maps.has_put_same (k := .int .i64 j) hD.isMap True.intro]
    simp [upd]
  · have hne : (Lit.int .i64 j) ≠ (Lit.int .i64 i) := fun e => hj (by injection e)
    rw [Maps.atKey_put_other hne, Maps.has_put_other hne, (hf j z).1, (hf j z).2]
    simp [upd, hj]
end

/-- 'm[k] = v' at the operation. -/
theorem wpList_store_map {P : Program} (w : World) {ops : Array Oper} {rest : List Oper} {o : Oper} {a : Act} {Q : Exit → Act → World → Prop} (hg : o.guard = none) (m x v : Operand) (T : TypeId) (hop : o.op = Op.mapUpdate T m x v)
    (K E : TypeId) (hK : P.underlying K = some (.int .i64)) (hT : P.underlying T = some (.map K E)) (b n : Nat) (f : Int → Option Value) (h : MapI P K w b n f) (hn : n < maxLen) (i : Int) (h0 : -9223372036854775808 ≤ i) (h1 : i ≤ 9223372036854775807) (u : Value)
    (hm : a.eval m = .map (some b)) (hx : a.eval x = .int .i64 i) (hv : a.eval v = u)
    (hQ : ∀ w', MapI P K w' b (n + 1) (upd f i u) → w.grownBy w' (some b) → wpList P ops Q rest (a.put o.dst undef) w') :
    wpList P ops Q (o :: rest) a w := by
  refine wpList_plain hg fun K' hK' => ?_
  obtain ⟨w', hrun, r1, r2⟩ := h.update hK hT hn h0 h1 u
  unfold Oper.wp
  simp [execOp, hop, hm, hx, hv, hrun, Result.andThen]
  exact hK' _ _ (hQ w' r1 r2)
end Go.Proofs.Ytkagonijkalicaa

/-
  A region that draws its order, makes a map, and fills it: its entries come in whatever order, and other operations of it may make memory, too.
-/
namespace Go.Proofs.Ytkagonijkalicaa
open Go.RowKit

section
variable {P : Program} {ops : Array Oper} {val : Tmp → Value} {a0 : Act}

/-- The entries: the operation that lays it, its key, its value. -/
abbrev Ins := List (Nat × Int × Value)
def fL (listed : Array Bool) : Ins → Int → Option Value
  | [], _ => none
  | (i, k, v) :: r, x => if x = k ∧ listed.getD i false = true then some v else fL listed r x
def full : Ins → Int → Option Value
  | [], _ => none
  | (_, k, v) :: r, x => if x = k then some v else full r x
theorem fL_none {listed : Array Bool} : ∀ {ins : Ins}, (∀ e ∈ ins, listed.getD e.1 false = false) → fL listed ins = fun _ => none
  | [], _ => rfl
  | (i, k, v) :: r, h => by
    funext x
    unfold fL
    rw [h (i, k, v) (by simp), if_neg (by simp), fL_none (fun e he => h e (by simp [he]))]
theorem fL_all {listed : Array Bool} : ∀ {ins : Ins}, (∀ e ∈ ins, listed.getD e.1 false = true) → fL listed ins = full ins
  | [], _ => rfl
  | (i, k, v) :: r, h => by
    funext x
    unfold fL full
    rw [h (i, k, v) (by simp), fL_all (fun e he => h e (by simp [he]))]
    simp
theorem fL_other {listed : Array Bool} {i : Nat} : ∀ {ins : Ins}, (∀ e ∈ ins, e.1 ≠ i) → fL (listed.setIfInBounds i true) ins = fL listed ins
  | [], _ => rfl
  | (j, k, v) :: r, h => by
    funext x
    unfold fL
    rw [getD_set_ne false (Ne.symm (h (j, k, v) (by simp))), fL_other (fun e he => h e (by simp [he]))]
theorem fL_at {listed : Array Bool} {i : Nat} {k : Int} {v : Value} (hs : i < listed.size) : ∀ {ins : Ins}, (ins.map (·.1)).Nodup → (ins.map (·.2.1)).Nodup → (i, k, v) ∈ ins → fL (listed.setIfInBounds i true) ins = upd (fL listed ins) k v
  | [], _, _, h => by cases h
  | (j, k', v') :: r, h1, h2, h => by
    simp only [List.map_cons, List.nodup_cons, List.mem_map, not_exists, not_and] at h1 h2
    funext x
    unfold upd fL
    rcases List.mem_cons.1 h with he | he
    · cases he
      rw [show (listed.setIfInBounds i true).getD i false = true by simp [hs], fL_other (fun e hm he => h1.1 e hm he)]
      by_cases hx : x = k
      · rw [if_pos ⟨hx, rfl⟩, if_pos hx]
      · rw [if_neg (fun h => hx h.1), if_neg hx, if_neg (fun h => hx h.1)]
    · have hij : i ≠ j := fun e => h1.1 _ he e
      have hkk : k ≠ k' := fun e => h2.1 _ he e
      rw [getD_set_ne false hij, fL_at hs h1.2 h2.2 he]
      unfold upd
      by_cases hx : x = k
      · subst hx
        rw [if_pos rfl, if_pos rfl, if_neg (fun h => hkk h.1)]
      · rw [if_neg hx, if_neg hx]

theorem count_mono {listed : Array Bool} {i : Nat} : listed.toList.count true ≤ (listed.setIfInBounds i true).toList.count true := by
  rw [show (listed.setIfInBounds i true).toList = listed.toList.set i true by simp]
  by_cases h : i < listed.toList.length
  · rw [List.count_set h]
    by_cases hx : listed.toList[i] = true
    · have : 0 < listed.toList.count true := List.count_pos_iff.2 (by rw [← hx]; exact List.getElem_mem h)
      simp [hx]; omega
    · simp [hx]
  · rw [List.set_eq_of_length_le (by omega)]; exact Nat.le_refl _
theorem count_step {listed : Array Bool} {i : Nat} (hs : i < listed.size) (h : listed.getD i false = false) : (listed.setIfInBounds i true).toList.count true = listed.toList.count true + 1 := by
  have hset : (listed.setIfInBounds i true).toList = listed.toList.set i true := by simp
  have hget : listed.toList[i]'(by simpa using hs) = false := by simpa [hs] using h
  rw [hset, List.count_set (by simpa using hs), hget]
  simp

/-- The temporaries that hold the map; all others hold one value, whatever the order. -/
def IsV (ms : List Tmp) (val : Tmp → Value) : Tmp → Value → World → Prop := fun t v _ => ms.contains t = false → v = val t
def valB (ms : List Tmp) (val : Tmp → Value) (b : Nat) : Tmp → Value := fun t => if ms.contains t = true then .map (some b) else val t
/-- Its copies: the operation, its temporary. -/
abbrev Cps := List (Nat × Tmp)
/-- Where the map's making is through, the map holds the entries that are laid. -/
def FillC (P : Program) (K : TypeId) (w0 : World) (mk : Nat) (m : Tmp) (cps : Cps) (ins : Ins) (listed : Array Bool) (a : Act) (w : World) : Prop :=
  Below w0.heap.size w0 w ∧ if listed.getD mk false = true then ∃ b n, w0.heap.size ≤ b ∧ slot a m = .map (some b) ∧ (∀ e ∈ cps, listed.getD e.1 false = true → slot a e.2 = .map (some b)) ∧ n ≤ listed.toList.count true ∧ MapI P K w b n (fL listed ins)
    else (∀ e ∈ ins, listed.getD e.1 false = false) ∧ ∀ e ∈ cps, listed.getD e.1 false = false
/-- Neither the making, a copy, nor an entry. -/
def plainAt (mk : Nat) (m : Tmp) (cps : Cps) (ins : Ins) (i : Nat) (d : Tmp) : Bool := i != mk && ((ins.all fun e => e.1 != i) && (d != m && cps.all fun e => e.1 != i && e.2 != d))

variable {K : TypeId} {w0 : World} {mk : Nat} {m : Tmp} {cps : Cps} {ins : Ins} {ms : List Tmp}
theorem FillC.plain {listed : Array Bool} {a : Act} {w w' : World} {i : Nat} {d : Tmp} {v : Value} (h : FillC P K w0 mk m cps ins listed a w) (hp : plainAt mk m cps ins i d = true) (hg : Below w.heap.size w w') : FillC P K w0 mk m cps ins (listed.setIfInBounds i true) (a.put (some d) v) w' := by
  unfold plainAt at hp
  rw [Bool.and_eq_true, Bool.and_eq_true, Bool.and_eq_true, bne_iff_ne, bne_iff_ne, List.all_eq_true, List.all_eq_true] at hp
  obtain ⟨h1, h2, h4, h5⟩ := hp
  have h2 : ∀ e ∈ ins, e.1 ≠ i := fun e he => by simpa using h2 e he
  have h5 : ∀ e ∈ cps, e.1 ≠ i ∧ e.2 ≠ d := fun e he => by simpa using h5 e he
  refine ⟨h.1.trans (hg.mono h.1.size), ?_⟩
  have h3 := h.2
  rw [getD_set_ne false h1, fL_other h2]
  split
  · rename_i hm
    rw [if_pos hm] at h3
    obtain ⟨b, n, hb, hs, hc, hn, hmp⟩ := h3
    refine ⟨b, n, hb, by rw [slot_ne (by simpa using h4)]; exact hs, fun e he hl => ?_, Nat.le_trans hn count_mono, hmp.below hg hmp.lt⟩
    obtain ⟨g1, g2⟩ := h5 e he
    rw [getD_set_ne false (Ne.symm g1)] at hl
    rw [slot_ne (by simpa using g2.symm)]
    exact hc e he hl
  · rename_i hm
    rw [if_neg hm] at h3
    exact ⟨fun e he => by rw [getD_set_ne false (Ne.symm (h2 e he))]; exact h3.1 e he, fun e he => by rw [getD_set_ne false (Ne.symm (h5 e he).1)]; exact h3.2 e he⟩

theorem owedF_plain {i : Nat} {o : Oper} {d : Tmp} (hg : o.guard = none) (hd : o.dst = some d) (hp : plainAt mk m cps ins i d = true)
    (h : ∀ a w, Below w0.heap.size w0 w → Known ops (IsV ms val) a0 o a w → ∀ K : Act → World → Prop, (∀ v w', Below w.heap.size w w' → (ms.contains d = false → v = val d) → K (a.put (some d) v) w') → o.wp P a w K (fun _ _ _ => False)) : OwedG P ops (IsV ms val) (FillC P K w0 mk m cps ins) a0 i o := by
  intro listed a w hs hso hsz hC hl hcl ha hK
  refine ⟨by simp [Region.wanted, hg], h a w hC.1 hK _ fun v w' hx hv => ⟨v, by rw [hd], ?_, fun _ _ h => h, fun e he => ?_⟩⟩
  · rw [hd]; exact hC.plain hp hx
  · rw [hd] at he
    cases he
    exact hv
theorem owedF_val {i : Nat} {o : Oper} {d : Tmp} (c : Value) (hg : o.guard = none) (hd : o.dst = some d) (hp : plainAt mk m cps ins i d = true) (hv : val d = c)
    (h : ∀ a w, Below w0.heap.size w0 w → Known ops (IsV ms val) a0 o a w → (execOp a.eval o).run P w = .ok (.value c) w) : OwedG P ops (IsV ms val) (FillC P K w0 mk m cps ins) a0 i o :=
  owedF_plain hg hd hp fun a w hb hK K hk => by
    have hr := hk c w (Below.refl _ _) (fun _ => hv.symm)
    unfold Oper.wp
    rw [h a w hb hK]
    rw [← hd] at hr
    exact hr
theorem knownV {o : Oper} {a : Act} {w : World} (hK : Known ops (IsV ms val) a0 o a w) (t : Tmp) (hk : ((o.looksAt ops).contains t && fromBefore ops o t) = true) (hm : ms.contains t = false) : slot a t = val t := known_in hK t hk hm
theorem owedF_move {i : Nat} {o : Oper} {d t : Tmp} (hg : o.guard = none) (hd : o.dst = some d) (hp : plainAt mk m cps ins i d = true) (ho : o.op = .move (.tmp t) ∨ o.op = .assign (.tmp t)) (hv : val t = val d)
    (hk : ((o.looksAt ops).contains t && fromBefore ops o t) = true) (hm : ms.contains t = false) : OwedG P ops (IsV ms val) (FillC P K w0 mk m cps ins) a0 i o :=
  owedF_val (val d) hg hd hp rfl fun a w hb hK => by
    have hs := knownV hK t hk hm
    unfold execOp
    rcases ho with ho | ho <;> simp only [ho, eval_slot, hs, hv] <;> rfl
theorem owedF_make {i : Nat} {o : Oper} {T : TypeId} (hg : o.guard = none) (hd : o.dst = some m) (hi : i = mk) (hlt : m < a0.tmps.size) (hmk : ((ins.all fun e => e.1 != mk) && (ms.contains m && cps.all fun e => e.1 != mk)) = true) (ho : o.op = .makeMap T none) : OwedG P ops (IsV ms val) (FillC P K w0 mk m cps ins) a0 i o := by
  intro listed a w hs hso hsz hC hl hcl ha hK
  subst hi
  rw [Bool.and_eq_true, Bool.and_eq_true, List.all_eq_true, List.all_eq_true] at hmk
  obtain ⟨hb, hC⟩ := hC
  rw [if_neg (by rw [hl]; simp)] at hC
  refine ⟨by simp [Region.wanted, hg], ?_⟩
  unfold Oper.wp
  have hrun : (execOp a.eval o).run P w = .ok (.value (.map (some w.heap.size))) (w.alloc (.map #[] 0)) := by unfold execOp; simp only [ho]; rfl
  rw [hrun]
  refine ⟨_, rfl, ?_, fun _ _ h => h, fun e he => ?_⟩
  · refine ⟨hb.alloc hb.size _, ?_⟩
    rw [if_pos (by simp [hs]), fL_other (fun e he => by simpa using hmk.1 e he), fL_none hC.1]
    refine ⟨w.heap.size, 0, hb.size, ?_, fun e he hl2 => ?_, Nat.zero_le _, MapI.made _ _ _⟩
    · rw [hd, slot_put (Nat.lt_of_lt_of_eq hlt hsz.symm), if_pos rfl]
    · have h1 : e.1 ≠ i := by simpa using hmk.2.2 e he
      rw [getD_set_ne false (Ne.symm h1), hC.2 e he] at hl2
      cases hl2
  · rw [hd] at he
    cases he
    intro hno
    rw [hmk.2.1] at hno
    cases hno
theorem owedF_insert {i : Nat} {o : Oper} {x : Tmp} {k : Int} {T E : TypeId} (hg : o.guard = none) (hd : o.dst = none) (ho : o.op = .insert T (.tmp m) (.const (.int .i64 k)) (.tmp x)) (hwt : waitsFor o mk = true) (hne : (i != mk && cps.all fun e => e.1 != i) = true)
    (h1 : (ins.map (·.1)).Nodup) (h2 : (ins.map (·.2.1)).Nodup) (hmem : (i, k, val x) ∈ ins) (hmx : ((o.looksAt ops).contains x && fromBefore ops o x) = true) (hms : ms.contains x = false)
    (hK : P.underlying K = some (.int .i64)) (hT : P.underlying T = some (.map K E)) (hk : (decide (-9223372036854775808 ≤ k) && decide (k ≤ 9223372036854775807)) = true) (hsz : ops.size ≤ 100000) : OwedG P ops (IsV ms val) (FillC P K w0 mk m cps ins) a0 i o := by
  intro listed a w hs hso hss hC hl hcl ha hKn
  rw [Bool.and_eq_true, bne_iff_ne, List.all_eq_true] at hne
  have hx := knownV hKn x hmx hms
  obtain ⟨e, he, hb, hon⟩ := waits_iff.1 hwt
  have hmk : listed.getD mk false = true := by rw [← hon]; exact ha e he hb
  obtain ⟨hbl, hC⟩ := hC
  rw [if_pos hmk] at hC
  obtain ⟨b, n, hbb, hsl, hcp, hn, hmp⟩ := hC
  have hk' := Bool.and_eq_true _ _ ▸ hk
  have hcnt : n < maxLen := by
    have := List.count_le_length (a := true) (l := listed.toList)
    rw [Array.length_toList] at this
    unfold maxLen; omega
  obtain ⟨w', hrun, r1, r2⟩ := hmp.update hK hT hcnt (i := k) (by simpa using hk'.1) (by simpa using hk'.2) (val x)
  refine ⟨by simp [Region.wanted, hg], ?_⟩
  unfold Oper.wp
  have hr : (execOp a.eval o).run P w = .ok .skip w' := by
    unfold execOp
    simp only [ho, eval_slot, hsl, hx]
    simp [Act.eval, hrun]
  rw [hr]
  refine ⟨undef, by rw [hd], ?_, fun _ _ h => h, fun e he => (by rw [hd] at he; cases he)⟩
  rw [hd]
  refine ⟨?_, ?_⟩
  · exact hbl.grown r2 hbl.size (fun k hk => by injection hk with hk; omega)
  · rw [getD_set_ne false (by simpa using hne.1), if_pos hmk, fL_at hs h1 h2 hmem, count_step hs hl]
    refine ⟨b, n + 1, hbb, hsl, fun e he hl2 => ?_, by omega, r1⟩
    have h3 : e.1 ≠ i := by simpa using hne.2 e he
    rw [getD_set_ne false (Ne.symm h3)] at hl2
    exact hcp e he hl2
theorem owedF_copy {i j : Nat} {o : Oper} {d t : Tmp} (hg : o.guard = none) (hd : o.dst = some d) (ho : o.op = .move (.tmp t) ∨ o.op = .assign (.tmp t)) (hwt : waitsFor o j = true) (hj : (j = mk ∧ t = m) ∨ (j, t) ∈ cps) (hne : (i != mk && ((ins.all fun e => e.1 != i) && (d != m && (ms.contains d && cps.all fun e => (e.1 != i && e.2 != d) || (e.1 == i && e.2 == d))))) = true) (hlt : d < a0.tmps.size) :
    OwedG P ops (IsV ms val) (FillC P K w0 mk m cps ins) a0 i o := by
  intro listed a w hs hso hss hC hl hcl ha hKn
  rw [Bool.and_eq_true, Bool.and_eq_true, Bool.and_eq_true, Bool.and_eq_true, bne_iff_ne, bne_iff_ne, List.all_eq_true, List.all_eq_true] at hne
  obtain ⟨n1, n2, n3, n4, n5⟩ := hne
  have n2 : ∀ e ∈ ins, e.1 ≠ i := fun e he => by simpa using n2 e he
  obtain ⟨e, he, hb, hon⟩ := waits_iff.1 hwt
  have hlj : listed.getD j false = true := by rw [← hon]; exact ha e he hb
  obtain ⟨hbl, hC⟩ := hC
  have hmk : listed.getD mk false = true := by
    rcases hj with ⟨rfl, _⟩ | hj
    · exact hlj
    · cases hx : listed.getD mk false with
      | true => rfl
      | false =>
        rw [if_neg (by rw [hx]; simp)] at hC
        rw [hC.2 _ hj] at hlj
        cases hlj
  rw [if_pos hmk] at hC
  obtain ⟨b, n, hbb, hsl, hcp, hn, hmp⟩ := hC
  have hst : slot a t = .map (some b) := by
    rcases hj with ⟨_, rfl⟩ | hj
    · exact hsl
    · exact hcp _ hj hlj
  refine ⟨by simp [Region.wanted, hg], ?_⟩
  unfold Oper.wp
  have hr : (execOp a.eval o).run P w = .ok (.value (.map (some b))) w := by
    unfold execOp
    rcases ho with ho | ho <;> simp only [ho, eval_slot, hst] <;> rfl
  rw [hr]
  refine ⟨_, rfl, ?_, fun _ _ h => h, fun e he => ?_⟩
  · rw [hd]
    refine ⟨hbl, ?_⟩
    rw [getD_set_ne false n1, if_pos hmk, fL_other n2]
    refine ⟨b, n, hbb, by rw [slot_ne (by simpa using n3)]; exact hsl, fun e he hl2 => ?_, Nat.le_trans hn count_mono, hmp⟩
    have h5 := n5 e he
    simp only [Bool.or_eq_true, Bool.and_eq_true, bne_iff_ne, beq_iff_eq] at h5
    rcases h5 with ⟨g1, g2⟩ | ⟨g1, g2⟩
    · rw [getD_set_ne false (Ne.symm g1)] at hl2
      rw [slot_ne (by simpa using g2.symm)]
      exact hcp e he hl2
    · rw [g2, slot_put (Nat.lt_of_lt_of_eq hlt hss.symm), if_pos rfl]
  · rw [hd] at he
    cases he
    intro hno
    rw [n4] at hno
    cases hno

theorem putsOf_same {vs : Tmp → Value} : ∀ {l : List Oper} {a : Act}, (∀ o ∈ l, ∀ d, o.dst = some d → vs d = val d) → putsOf l vs a = putsOf l val a
  | [], _, _ => rfl
  | o :: r, a, h => by
    unfold putsOf
    rw [putsOf_same (fun p hp => h p (by simp [hp]))]
    cases ho : o.dst with
    | none => rfl
    | some d => simp only []; rw [h o (by simp) d ho]
theorem below_drew {w w' : World} (h : Below w.drew.heap.size w.drew w') : Below w.heap.size w w' := Below.trans (show Below w.heap.size w w.drew from ⟨rfl, rfl, rfl, Nat.le_refl _, fun _ _ => rfl⟩) h
/-- THE RULE. -/
theorem wp_region_fill {id n : Nat} {l : List Oper} {Q : Exit → Act → World → Prop} {w : World} (ms : List Tmp) (val : Tmp → Value) (K : TypeId) (mk : Nat) (m : Tmp) (cps : Cps) (ins : Ins) (hm : P.follows .mixedOrders = true) (hB : settledB l.toArray n = true) (hn : a0.tmps.size = n)
    (hin : (decide (mk < l.length) && ((ins.all fun e => decide (e.1 < l.length)) && ((cps.all fun e => decide (e.1 < l.length)) && ms.all fun t => t == m || cps.any fun e => e.2 == t))) = true) (h : OwedGs P l.toArray (IsV ms val) (FillC P K w.drew mk m cps ins) a0 0 l)
    (hQ : ∀ (b : Nat) (w' : World), w.heap.size ≤ b → Below w.heap.size w w' → (∃ n, n ≤ l.length ∧ MapI P K w' b n (full ins)) → Q .normal (putsOf l (valB ms val b) a0) w') : (Code.region id l.toArray true).wp P Q a0 w := by
  rw [Bool.and_eq_true, Bool.and_eq_true, Bool.and_eq_true, List.all_eq_true, List.all_eq_true, List.all_eq_true] at hin
  obtain ⟨hmk, hin, hcp, hms⟩ := hin
  refine wp_region_gen hm hB hn h ⟨Below.refl _ _, ?_⟩ (fun a w' listed hs hall hC he hg => ?_)
  · rw [if_neg (by rw [none_yet]; decide)]
    exact ⟨fun e _ => none_yet _ _, fun e _ => none_yet _ _⟩
  · obtain ⟨hb, hC⟩ := hC
    rw [if_pos (hall mk (by simpa using hmk)), fL_all (fun e he => hall e.1 (by have := hin e he; simpa using this))] at hC
    obtain ⟨b, k, hbb, hsl, hcs, hk, hmp⟩ := hC
    rw [he, putsOf_same (val := valB ms val b) (fun o ho d hd => ?_)]
    · refine hQ b w' hbb (Below.trans (show Below w.heap.size w w.drew from ⟨rfl, rfl, rfl, Nat.le_refl _, fun _ _ => rfl⟩) hb) ⟨k, Nat.le_trans hk ?_, hmp⟩
      have := List.count_le_length (a := true) (l := listed.toList)
      rw [Array.length_toList] at this
      omega
    · unfold valB
      split
      · rename_i hc
        have h1 := hms d (by simpa using hc)
        rw [Bool.or_eq_true, List.any_eq_true] at h1
        rcases h1 with h1 | ⟨e, he2, h1⟩
        · rw [show d = m by simpa using h1]; exact hsl
        · have := hcs e he2 (hall e.1 (by have := hcp e he2; simpa using this))
          rw [← show e.2 = d by simpa using h1]
          exact this
      · rename_i hc
        exact hg o ho d hd (by simpa using hc)
end
end Go.Proofs.Ytkagonijkalicaa
