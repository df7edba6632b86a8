/-
  A region that draws its order, each of whose operations, in whatever order they come, yields what is said of its temporary: what is said of a temporary may speak of the world, and stays true as the world grows.
  So each operation is looked at once, in a frame of which just what it looks at is known.
-/
import Derived.Test.YtdkjdiamekfbdaaWords
import Derived.Orders
namespace Go.Proofs.Ytdkjdiamekfbdaa
open Go.RowKit

/-- Operation number j comes ahead of 'o'. -/
def waitsFor (o : Oper) (j : Nat) : Bool := o.after.any fun e => Region.binds .any e && e.on == j
/-- The operation that writes 't', if 'o' waits for it. -/
def fromBefore (ops : Array Oper) (o : Oper) (t : Tmp) : Bool :=
  (List.range ops.size).any fun j => ((ops[j]?).map fun p => p.dst == some t).getD false && waitsFor o j

/-- The edges are such that each operation's own operands are settled when it comes. -/
def settledB (ops : Array Oper) (n : Nat) : Bool :=
  (List.range ops.size).all fun i => match ops[i]? with
    | none => true
    | some o =>
      (o.after.all fun e => !Region.binds .any e || decide (e.on < i)) &&
      (match o.dst with
       | none => true
       | some d => decide (d < n) && !(o.looksAt ops).contains d && (List.range ops.size).all fun j => j == i || ((ops[j]?).map fun p => p.dst != some d).getD true) &&
      ((o.looksAt ops).all fun t => (List.range ops.size).all fun j => match ops[j]? with
        | none => true
        | some p => p.dst != some t || waitsFor o j || waitsFor p i)

section
variable {P : Program} {ops : Array Oper} {Γ : Tmp → Value → World → Prop} {C : World → Prop} {X : World → World → Prop} {a0 : Act}

def slot (a : Act) (t : Tmp) : Value := a.tmps[t]?.getD undef

/-- What is known of the frame when 'o' comes. -/
def Known (ops : Array Oper) (Γ : Tmp → Value → World → Prop) (a0 : Act) (o : Oper) (a : Act) (w : World) : Prop :=
  ∀ t ∈ o.looksAt ops, if fromBefore ops o t then Γ t (slot a t) w else slot a t = slot a0 t

/-- What is owed of one operation. -/
def Owed (P : Program) (ops : Array Oper) (Γ : Tmp → Value → World → Prop) (C : World → Prop) (X : World → World → Prop) (a0 : Act) (o : Oper) : Prop :=
  ∀ a w, C w → Known ops Γ a0 o a w →
    if Region.wanted o (yielded ops a.tmps) then o.wp P a w (fun a' w' => ∃ v, a' = a.put o.dst v ∧ C w' ∧ X w w' ∧ ∀ d, o.dst = some d → Γ d v w') (fun _ _ _ => False)
    else ∀ d, o.dst = some d → Γ d undef w

/-- The frame behind all of them. -/
def putsOf (l : List Oper) (vs : Tmp → Value) (a : Act) : Act :=
  match l with
  | [] => a
  | o :: r => putsOf r vs (match o.dst with | none => a | some d => a.put (some d) (vs d))

theorem wp_all {o : Oper} {a : Act} {w : World} {K K' : Act → World → Prop} {Q : Exit → Act → World → Prop} (h : o.wp P a w K (fun _ _ _ => False)) (hk : ∀ a w, K a w → K' a w) : o.wp P a w K' Q := by
  unfold Oper.wp at *
  generalize (execOp a.eval o).run P w = r at *
  cases r with
  | ok n w' =>
    cases n <;> simp only [Oper.upon] at h ⊢ <;>
      first
        | exact hk _ _ h
        | exact Calls.mono h (fun e w'' he => by
            cases e with
            | returned v => exact hk _ _ he
            | panicked c => exact he.elim
            | outgrown => obtain ⟨_, _, hf⟩ := he; exact hf.elim)
        | exact Rows.mono h (fun _ _ he => hk _ _ he)
  | halt x w' => cases x <;> simp only [Oper.upon] at h

theorem slot_put {a : Act} {d t : Tmp} {v : Value} (hd : d < a.tmps.size) : slot (a.put (some d) v) t = if d = t then v else slot a t := by
  unfold slot Act.put
  by_cases h : d = t
  · subst h; simp [hd]
  · rw [if_neg h]; simp [Array.getElem?_setIfInBounds_ne h]
theorem size_put (a : Act) (d : Option Tmp) (v : Value) : (a.put d v).tmps.size = a.tmps.size := by
  cases d <;> simp [Act.put]

/-- Where we are: some operations are through. -/
structure Through (ops : Array Oper) (Γ : Tmp → Value → World → Prop) (C : World → Prop) (a0 : Act) (listed : Array Bool) (a : Act) (w : World) : Prop where
  world : C w
  size : listed.size = ops.size
  defers : a.defers = a0.defers
  slots : a.tmps.size = a0.tmps.size
  good : ∀ (j : Nat) (o : Oper) (d : Tmp), ops[j]? = some o → o.dst = some d → listed.getD j false = true → Γ d (slot a d) w
  closed : ∀ (j : Nat) (o : Oper), ops[j]? = some o → listed.getD j false = true → ∀ e ∈ o.after, Region.binds .any e = true → listed.getD e.on false = true
  rest : ∀ t, (∀ (j : Nat) (o : Oper), ops[j]? = some o → listed.getD j false = true → o.dst ≠ some t) → slot a t = slot a0 t

theorem waits_iff {o : Oper} {j : Nat} : waitsFor o j = true ↔ ∃ e ∈ o.after, Region.binds .any e = true ∧ e.on = j := by
  unfold waitsFor
  rw [Array.any_eq_true]
  constructor
  · rintro ⟨i, hi, h⟩
    simp only [Bool.and_eq_true, beq_iff_eq] at h
    exact ⟨_, Array.getElem_mem hi, h⟩
  · rintro ⟨e, he, hb, ho⟩
    obtain ⟨i, hi, rfl⟩ := Array.getElem_of_mem he
    exact ⟨i, hi, by simp [hb, ho]⟩
theorem before_iff {o : Oper} {t : Tmp} : fromBefore ops o t = true ↔ ∃ j p, ops[j]? = some p ∧ p.dst = some t ∧ waitsFor o j = true := by
  unfold fromBefore
  rw [List.any_eq_true]
  constructor
  · rintro ⟨j, _, h⟩
    cases hp : ops[j]? with
    | none => simp [hp] at h
    | some p => simp [hp] at h; exact ⟨j, p, hp, h.1, h.2⟩
  · rintro ⟨j, p, hp, hd, hw⟩
    exact ⟨j, List.mem_range.2 (Array.getElem?_eq_some_iff.1 hp).1, by simp [hp, hd, hw]⟩

/-- What the Bool says, operation by operation. -/
theorem settled_spec {n : Nat} (h : settledB ops n = true) {i : Nat} {o : Oper} (hi : ops[i]? = some o) :
    (∀ e ∈ o.after, Region.binds .any e = true → e.on < i) ∧
    (∀ d, o.dst = some d → d < n ∧ d ∉ o.looksAt ops ∧ ∀ j p, ops[j]? = some p → j ≠ i → p.dst ≠ some d) ∧
    (∀ t ∈ o.looksAt ops, ∀ j p, ops[j]? = some p → p.dst = some t → waitsFor o j = true ∨ waitsFor p i = true) := by
  unfold settledB at h
  rw [List.all_eq_true] at h
  have h1 := h i (List.mem_range.2 (Array.getElem?_eq_some_iff.1 hi).1)
  simp only [hi, Bool.and_eq_true] at h1
  obtain ⟨⟨ha, hd⟩, hl⟩ := h1
  refine ⟨fun e he hb => ?_, fun d hdst => ?_, fun t ht j p hp hpt => ?_⟩
  · rw [Array.all_eq_true_iff_forall_mem] at ha
    have := ha e he
    simpa [hb] using this
  · simp only [hdst, Bool.and_eq_true, decide_eq_true_eq, Bool.not_eq_true'] at hd
    refine ⟨hd.1.1, by simpa using hd.1.2, fun j p hp hj => ?_⟩
    have := List.all_eq_true.1 hd.2 j (List.mem_range.2 (Array.getElem?_eq_some_iff.1 hp).1)
    simpa [hp, hj] using this
  · have := List.all_eq_true.1 (List.all_eq_true.1 hl t ht) j (List.mem_range.2 (Array.getElem?_eq_some_iff.1 hp).1)
    simpa [hp, hpt] using this

theorem getD_of_ready {listed : Array Bool} {i : Nat} (h : listed.getD i true = false) : listed.getD i false = false ∧ i < listed.size := by
  rcases Nat.lt_or_ge i listed.size with h' | h'
  · simp [h'] at h ⊢; exact h
  · simp [Array.getElem?_eq_none h'] at h

/-- What is known when an operation comes. -/
theorem Through.known {n : Nat} (hB : settledB ops n = true) {listed : Array Bool} {a : Act} {w : World} (h : Through ops Γ C a0 listed a w) {i : Nat} {o : Oper} (hi : ops[i]? = some o)
    (hr : i ∈ Region.ready .any ops listed) : Known ops Γ a0 o a w := by
  obtain ⟨hun, o', ho', hall⟩ := mem_ready.1 hr
  rw [hi] at ho'
  cases ho'
  obtain ⟨_, _, hl⟩ := settled_spec hB hi
  intro t ht
  split
  · rename_i hb
    obtain ⟨j, p, hp, hpt, hw⟩ := before_iff.1 hb
    obtain ⟨e, he, hbn, hon⟩ := waits_iff.1 hw
    exact h.good j p t hp hpt (by rw [← hon]; exact hall e he hbn)
  · rename_i hb
    refine h.rest t fun j p hp hlj hpt => ?_
    rcases hl t ht j p hp hpt with hw | hw
    · exact hb (before_iff.2 ⟨j, p, hp, hpt, hw⟩)
    · obtain ⟨e, he, hbn, hon⟩ := waits_iff.1 hw
      have hli := h.closed j p hp hlj e he hbn
      rw [hon, (getD_of_ready hun).1] at hli
      cases hli

theorem Through.step {n : Nat} (hB : settledB ops n = true) (hn : a0.tmps.size = n) (hX : ∀ t v w w', C w → C w' → X w w' → Γ t v w → Γ t v w') {listed : Array Bool} {a : Act} {w w' : World} (h : Through ops Γ C a0 listed a w) {i : Nat} {o : Oper} (hi : ops[i]? = some o)
    (hr : i ∈ Region.ready .any ops listed) {v : Value} (hC : C w') (hx : X w w') (hg : ∀ d, o.dst = some d → Γ d v w') : Through ops Γ C a0 (listed.setIfInBounds i true) (a.put o.dst v) w' := by
  obtain ⟨_, hd, _⟩ := settled_spec hB hi
  obtain ⟨hun, o', ho', hall⟩ := mem_ready.1 hr
  rw [hi] at ho'
  cases ho'
  have hil := (getD_of_ready hun).2
  refine ⟨hC, by simpa using h.size, ?_, by rw [size_put]; exact h.slots, fun j p d hp hpd hlj => ?_, fun j p hp hlj e he hb => ?_, fun t ht => ?_⟩
  · rw [← h.defers]; cases o.dst <;> rfl
  · by_cases hji : j = i
    · subst hji
      rw [hi] at hp
      cases hp
      rw [hpd, slot_put (by rw [h.slots, hn]; exact (hd d hpd).1), if_pos rfl]
      exact hg d hpd
    · rw [getD_set_ne false (Ne.symm hji)] at hlj
      have h1 := hX d _ w w' h.world hC hx (h.good j p d hp hpd hlj)
      cases ho : o.dst with
      | none => exact h1
      | some e =>
        rw [slot_put (by rw [h.slots, hn]; exact (hd e ho).1), if_neg]
        · exact h1
        · rintro rfl
          exact (hd e ho).2.2 j p hp hji hpd
  · by_cases hji : j = i
    · subst hji
      rw [hi] at hp
      cases hp
      exact getD_set_true (hall e he hb)
    · rw [getD_set_ne false (Ne.symm hji)] at hlj
      exact getD_set_true (h.closed j p hp hlj e he hb)
  · have hti : o.dst ≠ some t := ht i o hi (by simp [hil])
    have hold : slot a t = slot a0 t := h.rest t fun j p hp hlj => ht j p hp (getD_set_true hlj)
    cases ho : o.dst with
    | none => exact hold
    | some e =>
      rw [slot_put (by rw [h.slots, hn]; exact (hd e ho).1), if_neg (fun he => hti (by rw [ho, he]))]
      exact hold

/-- If an operation is left, one may come. -/
theorem ready_some {n : Nat} (hB : settledB ops n = true) {listed : Array Bool} (hs : listed.size = ops.size) (h : Region.ready .any ops listed = []) : ∀ i, i < ops.size → listed.getD i false = true := by
  intro i
  induction i using Nat.strongRecOn with
  | _ i ih =>
    intro hi
    obtain ⟨o, ho⟩ : ∃ o, ops[i]? = some o := ⟨ops[i], Array.getElem?_eq_getElem hi⟩
    cases hl : listed.getD i false with
    | true => rfl
    | false =>
      exfalso
      have hm : i ∈ Region.ready .any ops listed := by
        refine mem_ready.2 ⟨?_, o, ho, fun e he hb => ?_⟩
        · simp [hs, hi] at hl ⊢; exact hl
        · have hlt := (settled_spec hB ho).1 e he hb
          exact ih e.on hlt (by omega)
      rw [h] at hm
      cases hm

theorem slot_ext {a b : Act} (hs : a.tmps.size = b.tmps.size) (hd : a.defers = b.defers) (h : ∀ t, slot a t = slot b t) : a = b := by
  obtain ⟨x, dx⟩ := a
  obtain ⟨y, dy⟩ := b
  simp only [slot] at *
  subst hd
  congr 1
  apply Array.ext hs
  intro i h1 h2
  have := h i
  simpa [h1, h2] using this

theorem size_putsOf (l : List Oper) (vs : Tmp → Value) : ∀ a : Act, (putsOf l vs a).tmps.size = a.tmps.size := by
  induction l with
  | nil => intro a; rfl
  | cons o l ih => intro a; unfold putsOf; rw [ih]; cases o.dst <;> simp [size_put]
theorem defers_putsOf (l : List Oper) (vs : Tmp → Value) : ∀ a : Act, (putsOf l vs a).defers = a.defers := by
  induction l with
  | nil => intro a; rfl
  | cons o l ih => intro a; unfold putsOf; rw [ih]; cases o.dst <;> rfl
theorem slot_putsOf (vs : Tmp → Value) (t : Tmp) : ∀ (l : List Oper) (a : Act), (∀ o ∈ l, ∀ d, o.dst = some d → d < a.tmps.size) →
    slot (putsOf l vs a) t = (if l.any (fun o => o.dst == some t) then vs t else slot a t) := by
  intro l
  induction l with
  | nil => intro a _; rfl
  | cons o l ih =>
    intro a ha
    unfold putsOf
    cases ho : o.dst with
    | none =>
      simp only []
      rw [ih a (fun p hp => ha p (by simp [hp]))]
      simp [ho]
    | some d =>
      simp only []
      have hd := ha o (by simp) d ho
      rw [ih _ (fun p hp e he => by rw [size_put]; exact ha p (by simp [hp]) e he), slot_put hd]
      by_cases hdt : d = t
      · subst hdt; simp [ho]
      · simp [ho, hdt]

theorem Through.ends {n : Nat} (hB : settledB ops n = true) (hn : a0.tmps.size = n) {listed : Array Bool} {a : Act} {w : World} (h : Through ops Γ C a0 listed a w) (hr : Region.ready .any ops listed = []) :
    a = putsOf ops.toList (slot a) a0 ∧ ∀ o ∈ ops.toList, ∀ d, o.dst = some d → Γ d (slot a d) w := by
  have hall := ready_some hB h.size hr
  have hmem : ∀ o ∈ ops.toList, ∃ j, j < ops.size ∧ ops[j]? = some o := by
    intro o ho
    obtain ⟨j, hj, rfl⟩ := List.getElem_of_mem ho
    exact ⟨j, by simpa using hj, by simp⟩
  refine ⟨slot_ext (by rw [size_putsOf]; exact h.slots) (by rw [defers_putsOf]; exact h.defers) fun t => ?_, fun o ho d hd => ?_⟩
  · rw [slot_putsOf]
    · split
      · rfl
      · rename_i hno
        refine h.rest t fun j p hp _ hpt => hno ?_
        rw [List.any_eq_true]
        exact ⟨p, Array.mem_toList_iff.2 (Array.mem_of_getElem? hp), by simp [hpt]⟩
    · intro o ho d hd
      obtain ⟨j, _, hp⟩ := hmem o ho
      rw [hn]
      exact ((settled_spec hB hp).2.1 d hd).1
  · obtain ⟨j, hj, hp⟩ := hmem o ho
    exact h.good j o d hp hd (hall j hj)

theorem wpAny_steady {n : Nat} {Q : Exit → Act → World → Prop} (hB : settledB ops n = true) (hn : a0.tmps.size = n) (hR : ∀ w, X w w) (hX : ∀ t v w w', C w → C w' → X w w' → Γ t v w → Γ t v w') (h : ∀ o ∈ ops.toList, Owed P ops Γ C X a0 o)
    (hQ : ∀ (vs : Tmp → Value) (w : World), C w → (∀ o ∈ ops.toList, ∀ d, o.dst = some d → Γ d (vs d) w) → Q .normal (putsOf ops.toList vs a0) w) :
    ∀ (fuel : Nat) (listed : Array Bool) (a : Act) (w : World), Through ops Γ C a0 listed a w → listed.toList.count false = fuel → wpAny P .any ops Q fuel listed a w := by
  intro fuel
  have hend : ∀ (listed : Array Bool) (a : Act) (w : World), Through ops Γ C a0 listed a w → Region.ready .any ops listed = [] → Q .normal a w := by
    intro listed a w ht hr
    obtain ⟨he, hg⟩ := ht.ends hB hn hr
    rw [he]
    exact hQ _ w ht.world hg
  induction fuel with
  | zero =>
    intro listed a w ht hc
    have hr : Region.ready .any ops listed = [] := by
      refine List.eq_nil_iff_forall_not_mem.2 fun i hi => ?_
      have hun := getD_of_ready (mem_ready.1 hi).1
      have hm : false ∈ listed.toList := by
        have := hun.1
        simp [hun.2] at this
        rw [← this]
        exact Array.mem_toList_iff.2 (Array.getElem_mem hun.2)
      rw [List.count_eq_zero] at hc
      exact hc hm
    exact ⟨hr, hend _ _ _ ht hr⟩
  | succ fuel ih =>
    intro listed a w ht hc
    refine ⟨hend _ _ _ ht, fun i hi => ?_⟩
    have hun := getD_of_ready (mem_ready.1 hi).1
    have hc' : (listed.setIfInBounds i true).toList.count false = fuel := by
      have hset : (listed.setIfInBounds i true).toList = listed.toList.set i true := by simp
      have hget : listed.toList[i]'(by simpa using hun.2) = false := by
        have := hun.1
        simpa [hun.2] using this
      rw [hset, List.count_set (by simpa using hun.2), hget]
      simp [hc]
    cases hi' : ops[i]? with
    | none =>
      obtain ⟨_, o, ho, _⟩ := mem_ready.1 hi
      rw [hi'] at ho
      cases ho
    | some o =>
      have hk := ht.known hB hi' hi
      have hob := h o (Array.mem_toList_iff.2 (Array.mem_of_getElem? hi')) a w ht.world hk
      unfold wpOp
      simp only [hi']
      split
      · rename_i hw
        rw [if_pos hw] at hob
        refine .inl (wp_all hob ?_)
        rintro a' w' ⟨v, rfl, hC, hx, hg⟩
        exact ih _ _ _ (ht.step hB hn hX hi' hi hC hx hg) hc'
      · rename_i hw
        rw [if_neg hw] at hob
        exact ih _ _ _ (ht.step (v := undef) (w' := w) hB hn hX hi' hi ht.world (hR w) hob) hc'

theorem none_yet (n j : Nat) : (Array.replicate n false).getD j false = false := by
  simp only [Array.getD_eq_getD_getElem?, Array.getElem?_replicate]
  split <;> rfl

/-- THE RULE: each operation by itself; then what stands behind, in a frame that holds whatever is said. -/
theorem wp_region_steady {id n : Nat} {l : List Oper} {Q : Exit → Act → World → Prop} {w : World} (hm : P.follows .mixedOrders = true) (hB : settledB l.toArray n = true) (hn : a0.tmps.size = n) (hC : C w.drew) (hR : ∀ w, X w w)
    (hX : ∀ t v w w', C w → C w' → X w w' → Γ t v w → Γ t v w') (h : ∀ o ∈ l, Owed P l.toArray Γ C X a0 o)
    (hQ : ∀ (vs : Tmp → Value) (w : World), C w → (∀ o ∈ l, ∀ d, o.dst = some d → Γ d (vs d) w) → Q .normal (putsOf l vs a0) w) : (Code.region id l.toArray true).wp P Q a0 w := by
  refine wp_region_any hm (wpAny_steady (C := C) (X := X) (Γ := Γ) (n := n) hB hn hR hX (by simpa using h) (by simpa using hQ) _ _ _ _ ?_ ?_)
  · exact ⟨hC, by simp, rfl, rfl, fun j o d hj _ hl => absurd hl (by rw [none_yet]; decide), fun j o hj hl => absurd hl (by rw [none_yet]; decide), fun _ _ => rfl⟩
  · simp

/-! ### The rule at worlds that grow -/

/-- All that was there is as it was. -/
def Grew (w0 : World) : World → Prop := fun w => Below w0.heap.size w0 w
theorem Grew.trans {w0 w w' : World} (h : Grew w0 w) (h' : Grew w w') : Grew w0 w' := Below.trans h (Below.mono h' (Below.size h))

/-- What is said of a value, and stays true as the world grows. -/
def Sp := { G : Value → World → Prop // ∀ v w w', Grew w w' → G v w → G v w' }
def isv (c : Value) : Sp := ⟨fun v _ => v = c, fun _ _ _ _ h => h⟩
def istxt (bs : List Nat) : Sp := ⟨Txt bs, fun _ _ _ hx h => Txt.below hx h⟩
def isany : Sp := ⟨fun _ _ => True, fun _ _ _ _ h => h⟩
/-- What is said of temporaries: a list; of one that is not in it, nothing. -/
def Say (l : List (Tmp × Sp)) (t : Tmp) : Sp :=
  match l with
  | [] => isany
  | (s, G) :: r => if s = t then G else Say r t
/-- All of them. -/
def Oweds (P : Program) (ops : Array Oper) (S : Tmp → Sp) (w : World) (a0 : Act) : List Oper → Prop
  | [] => True
  | o :: r => Owed P ops (fun t => (S t).1) (Grew w) Grew a0 o ∧ Oweds P ops S w a0 r
def Goods (S : Tmp → Sp) (vs : Tmp → Value) (w : World) : List Oper → Prop
  | [] => True
  | o :: r => (match o.dst with | none => True | some d => (S d).1 (vs d) w) ∧ Goods S vs w r
theorem oweds_all {S : Tmp → Sp} {w : World} : ∀ {l : List Oper}, Oweds P ops S w a0 l → ∀ o ∈ l, Owed P ops (fun t => (S t).1) (Grew w) Grew a0 o
  | [], _, _, h => by cases h
  | _ :: _, ⟨h, hr⟩, _, hm => by
    rcases List.mem_cons.1 hm with rfl | hm
    · exact h
    · exact oweds_all hr _ hm
theorem goods_all {S : Tmp → Sp} {vs : Tmp → Value} {w : World} : ∀ {l : List Oper}, (∀ o ∈ l, ∀ d, o.dst = some d → (S d).1 (vs d) w) → Goods S vs w l
  | [], _ => trivial
  | o :: l, h => by
    refine ⟨?_, goods_all fun p hp => h p (List.mem_cons_of_mem _ hp)⟩
    cases ho : o.dst with
    | none => trivial
    | some d => exact h o (by simp) d ho

/-- What is owed, where an operation is carried out without a question ahead of it. -/
theorem owed_plain {o : Oper} {d : Tmp} {w0 : World} (hg : o.guard = none) (hd : o.dst = some d)
    (h : ∀ a w, Grew w0 w → Known ops Γ a0 o a w → ∀ K : Act → World → Prop, (∀ v w', Grew w w' → Γ d v w' → K (a.put (some d) v) w') → o.wp P a w K (fun _ _ _ => False)) :
    Owed P ops Γ (Grew w0) Grew a0 o := by
  intro a w hC hK
  rw [if_pos (by simp [Region.wanted, hg])]
  refine h a w hC hK _ fun v w' hx hG => ⟨v, by rw [hd], hC.trans hx, hx, fun e he => ?_⟩
  rw [hd] at he
  cases he
  exact hG
theorem yielded_of {j : Nat} {t : Tmp} {b : Bool} {a : Act} (hj : (ops[j]?).bind (·.dst) = some t) (hs : slot a t = .bool b) : yielded ops a.tmps j = some b := by
  unfold yielded
  rw [hj]
  unfold slot at hs
  cases h : a.tmps[t]? with
  | none => simp [h, undef] at hs
  | some u => simp [h] at hs; simp [h, hs]
/-- .. where it is guarded, and the guard's answer is the one that it wants. -/
theorem owed_wanted {o : Oper} {d g : Tmp} {j : Nat} {b : Bool} {w0 : World} (hg : o.guard = some (j, b)) (hj : (ops[j]?).bind (·.dst) = some g) (hd : o.dst = some d)
    (hk : ((o.looksAt ops).contains g && fromBefore ops o g) = true) (hv : ∀ v w, Γ g v w → v = .bool b)
    (h : ∀ a w, Grew w0 w → Known ops Γ a0 o a w → ∀ K : Act → World → Prop, (∀ v w', Grew w w' → Γ d v w' → K (a.put (some d) v) w') → o.wp P a w K (fun _ _ _ => False)) :
    Owed P ops Γ (Grew w0) Grew a0 o := by
  intro a w hC hK
  simp only [Bool.and_eq_true] at hk
  have hs := hK g (by simpa using hk.1)
  rw [if_pos hk.2] at hs
  rw [if_pos (by simp [Region.wanted, hg, yielded_of hj (hv _ _ hs)])]
  refine h a w hC hK _ fun v w' hx hG => ⟨v, by rw [hd], hC.trans hx, hx, fun e he => ?_⟩
  rw [hd] at he
  cases he
  exact hG
/-- .. where it is guarded, and not wanted. -/
theorem owed_skipped {o : Oper} {d g : Tmp} {j : Nat} {b : Bool} {w0 : World} (hg : o.guard = some (j, b)) (hj : (ops[j]?).bind (·.dst) = some g) (hd : o.dst = some d)
    (hk : ((o.looksAt ops).contains g && fromBefore ops o g) = true) (hv : ∀ v w, Γ g v w → v = .bool (!b)) (h : ∀ w, Γ d undef w) : Owed P ops Γ (Grew w0) Grew a0 o := by
  intro a w hC hK
  simp only [Bool.and_eq_true] at hk
  have hs := hK g (by simpa using hk.1)
  rw [if_pos hk.2] at hs
  rw [if_neg (by simp [Region.wanted, hg, yielded_of hj (hv _ _ hs)])]
  intro e he
  rw [hd] at he
  cases he
  exact h w
theorem known_in {o : Oper} {a : Act} {w : World} (hK : Known ops Γ a0 o a w) (t : Tmp) (ht : ((o.looksAt ops).contains t && fromBefore ops o t) = true) : Γ t (slot a t) w := by
  simp only [Bool.and_eq_true] at ht
  have hs := hK t (by simpa using ht.1)
  rwa [if_pos ht.2] at hs
theorem known_out {o : Oper} {a : Act} {w : World} (hK : Known ops Γ a0 o a w) (t : Tmp) (ht : ((o.looksAt ops).contains t && !fromBefore ops o t) = true) : slot a t = slot a0 t := by
  simp only [Bool.and_eq_true, Bool.not_eq_true'] at ht
  have hs := hK t (by simpa using ht.1)
  rwa [if_neg (by simp [ht.2])] at hs
theorem eval_slot (a : Act) (t : Tmp) : a.eval (.tmp t) = slot a t := by simp [Act.eval, slot]

theorem owed_move {o : Oper} {d t : Tmp} {w0 : World} (hg : o.guard = none) (hd : o.dst = some d) (ho : o.op = .move (.tmp t) ∨ o.op = .assign (.tmp t))
    (h : ∀ a w, Grew w0 w → Known ops Γ a0 o a w → Γ d (slot a t) w) : Owed P ops Γ (Grew w0) Grew a0 o :=
  owed_plain hg hd fun a w hC hK K hk => by
    have hr := hk _ w (Below.refl _ _) (h a w hC hK)
    unfold Oper.wp execOp
    rcases ho with ho | ho <;> simp only [ho, Sem.run_pure, Oper.upon, eval_slot] <;> rw [hd] <;> exact hr

theorem owed_val {o : Oper} {d : Tmp} {w0 : World} (c : Value) (hg : o.guard = none) (hd : o.dst = some d) (hG : ∀ w, Γ d c w)
    (h : ∀ a w, Grew w0 w → Known ops Γ a0 o a w → (execOp a.eval o).run P w = .ok (.value c) w) : Owed P ops Γ (Grew w0) Grew a0 o :=
  owed_plain hg hd fun a w hC hK K hk => by
    have hr := hk _ w (Below.refl _ _) (hG w)
    unfold Oper.wp
    rw [h a w hC hK, ← hd] at *
    exact hr

theorem owed_wval {o : Oper} {d g : Tmp} {j : Nat} {b : Bool} {w0 : World} (c : Value) (hg : o.guard = some (j, b)) (hj : (ops[j]?).bind (·.dst) = some g) (hd : o.dst = some d)
    (hk : ((o.looksAt ops).contains g && fromBefore ops o g) = true) (hv : ∀ v w, Γ g v w → v = .bool b) (hG : ∀ w, Γ d c w)
    (h : ∀ a w, Grew w0 w → Known ops Γ a0 o a w → (execOp a.eval o).run P w = .ok (.value c) w) : Owed P ops Γ (Grew w0) Grew a0 o :=
  owed_wanted hg hj hd hk hv fun a w hC hK K hk => by
    have hr := hk _ w (Below.refl _ _) (hG w)
    unfold Oper.wp
    rw [h a w hC hK, ← hd] at *
    exact hr
theorem owed_movew {o : Oper} {d g t : Tmp} {j : Nat} {b : Bool} {w0 : World} (hg : o.guard = some (j, b)) (hj : (ops[j]?).bind (·.dst) = some g) (hd : o.dst = some d)
    (hk : ((o.looksAt ops).contains g && fromBefore ops o g) = true) (hv : ∀ v w, Γ g v w → v = .bool b) (ho : o.op = .move (.tmp t) ∨ o.op = .assign (.tmp t))
    (h : ∀ a w, Grew w0 w → Known ops Γ a0 o a w → Γ d (slot a t) w) : Owed P ops Γ (Grew w0) Grew a0 o :=
  owed_wanted hg hj hd hk hv fun a w hC hK K hk => by
    have hr := hk _ w (Below.refl _ _) (h a w hC hK)
    unfold Oper.wp execOp
    rcases ho with ho | ho <;> simp only [ho, Sem.run_pure, Oper.upon, eval_slot] <;> rw [hd] <;> exact hr

/-- THE RULE AT WORLDS THAT GROW: of each temporary it is said what it holds. -/
theorem wp_region_grew {id n : Nat} {l : List Oper} {Q : Exit → Act → World → Prop} {w : World} (S : Tmp → Sp) (hm : P.follows .mixedOrders = true) (hB : settledB l.toArray n = true) (hn : a0.tmps.size = n)
    (h : Oweds P l.toArray S w a0 l) (hQ : ∀ (vs : Tmp → Value) (w' : World), Grew w w' → Goods S vs w' l → Q .normal (putsOf l vs a0) w') : (Code.region id l.toArray true).wp P Q a0 w :=
  wp_region_steady (C := Grew w) (X := Grew) (Γ := fun t => (S t).1) hm hB hn ⟨rfl, rfl, rfl, Nat.le_refl _, fun _ _ => rfl⟩ (fun _ => Below.refl _ _) (fun t v w w' _ _ hx hv => (S t).2 v w w' hx hv) (oweds_all h)
    fun vs w' hC hg => hQ vs w' hC (goods_all hg)
end
end Go.Proofs.Ytdkjdiamekfbdaa
