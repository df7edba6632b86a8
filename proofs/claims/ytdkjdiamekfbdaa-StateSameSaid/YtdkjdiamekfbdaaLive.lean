/-
  A region that draws its order, whose last operation waits for all others: what is said of a temporary need stay true only as long as some operation that is still to come looks at it. So appends onto a row of the call's own, one behind the other, are borne.
-/
import Derived.Test.YtdkjdiamekfbdaaSteady
namespace Go.Proofs.Ytdkjdiamekfbdaa
open Go.RowKit

section
variable {P : Program} {ops : Array Oper} {Γ : Tmp → Value → World → Prop} {C : World → Prop} {a0 : Act}

/-- It waits for the j-th, be it by way of others. -/
def waitsFar (ops : Array Oper) : Nat → Oper → Nat → Bool
  | 0, o, j => waitsFor o j
  | f + 1, o, j => waitsFor o j || o.after.any fun e => Region.binds .any e && ((ops[e.on]?).map fun p => waitsFar ops f p j).getD false
theorem far_listed {listed : Array Bool} (hcl : ∀ (j : Nat) (o : Oper), ops[j]? = some o → listed.getD j false = true → ∀ e ∈ o.after, Region.binds .any e = true → listed.getD e.on false = true) :
    ∀ (f : Nat) (o : Oper) (j : Nat), (∀ e ∈ o.after, Region.binds .any e = true → listed.getD e.on false = true) → waitsFar ops f o j = true → listed.getD j false = true
  | 0, o, j, ho, h => by
    obtain ⟨e, he, hbn, hon⟩ := waits_iff.1 h
    rw [← hon]
    exact ho e he hbn
  | f + 1, o, j, ho, h => by
    unfold waitsFar at h
    rw [Bool.or_eq_true] at h
    rcases h with h | h
    · obtain ⟨e, he, hbn, hon⟩ := waits_iff.1 h
      rw [← hon]
      exact ho e he hbn
    · rw [Array.any_eq_true'] at h
      obtain ⟨e, he, h⟩ := h
      rw [Bool.and_eq_true] at h
      cases hp : ops[e.on]? with
      | none => rw [hp] at h; simp at h
      | some p =>
        rw [hp] at h
        exact far_listed hcl f p j (fun e' he' hb' => hcl e.on p hp (ho e he h.1) e' he' hb') (by simpa using h.2)

/-- Some operation that is still to come looks at it. -/
def Needed (ops : Array Oper) (listed : Array Bool) (t : Tmp) : Prop := ∃ (i : Nat) (o : Oper), ops[i]? = some o ∧ listed.getD i false = false ∧ t ∈ o.looksAt ops
/-- Some operation that writes it waits for the i-th. -/
def laterB (ops : Array Oper) (i : Nat) (t : Tmp) : Bool := (List.range ops.size).any fun j => ((ops[j]?).map fun p => p.dst == some t && waitsFar ops 8 p i).getD false
/-- .. as a Bool, of an operation that comes: an other one than itself, and than those for which it waits; and what is looked at is there already. -/
def lives (ops : Array Oper) (i : Nat) (o : Oper) (t : Tmp) : Bool :=
  o.dst != some t && !laterB ops i t && (List.range ops.size).any fun j => j != i && !waitsFar ops 8 o j && ((ops[j]?).map fun p => (p.looksAt ops).contains t).getD false

structure ThroughL (ops : Array Oper) (Γ : Tmp → Value → World → Prop) (C : World → Prop) (a0 : Act) (listed : Array Bool) (a : Act) (w : World) : Prop where
  world : C w
  size : listed.size = ops.size
  defers : a.defers = a0.defers
  slots : a.tmps.size = a0.tmps.size
  good : ∀ (j : Nat) (o : Oper) (d : Tmp), ops[j]? = some o → o.dst = some d → listed.getD j false = true → Needed ops listed d → Γ d (slot a d) w
  closed : ∀ (j : Nat) (o : Oper), ops[j]? = some o → listed.getD j false = true → ∀ e ∈ o.after, Region.binds .any e = true → listed.getD e.on false = true
  rest : ∀ t, (∀ (j : Nat) (o : Oper), ops[j]? = some o → listed.getD j false = true → o.dst ≠ some t) → slot a t = slot a0 t

/-- What is owed of the i-th operation. -/
def OwedL (P : Program) (ops : Array Oper) (Γ : Tmp → Value → World → Prop) (C : World → Prop) (a0 : Act) (i : Nat) (o : Oper) : Prop :=
  ∀ a w, C w → Known ops Γ a0 o a w → Region.wanted o (yielded ops a.tmps) = true ∧
    o.wp P a w (fun a' w' => ∃ v, a' = a.put o.dst v ∧ C w' ∧ (∀ t u, lives ops i o t = true → Γ t u w → Γ t u w') ∧ ∀ d, o.dst = some d → Γ d v w') (fun _ _ _ => False)

theorem ThroughL.known {n : Nat} (hB : settledB ops n = true) {listed : Array Bool} {a : Act} {w : World} (h : ThroughL ops Γ C a0 listed a w) {i : Nat} {o : Oper} (hi : ops[i]? = some o)
    (hr : i ∈ Region.ready .any ops listed) : Known ops Γ a0 o a w := by
  obtain ⟨hun, o', ho', hall⟩ := mem_ready.1 hr
  rw [hi] at ho'
  cases ho'
  obtain ⟨_, _, hl⟩ := settled_spec hB hi
  intro t ht
  split
  · rename_i hb
    obtain ⟨j, p, hp, hpt, hw⟩ := before_iff.1 hb
    obtain ⟨e, he, hbn, hon⟩ := waits_iff.1 hw
    exact h.good j p t hp hpt (by rw [← hon]; exact hall e he hbn) ⟨i, o, hi, (getD_of_ready hun).1, ht⟩
  · rename_i hb
    refine h.rest t fun j p hp hlj hpt => ?_
    rcases hl t ht j p hp hpt with hw | hw
    · exact hb (before_iff.2 ⟨j, p, hp, hpt, hw⟩)
    · obtain ⟨e, he, hbn, hon⟩ := waits_iff.1 hw
      have hli := h.closed j p hp hlj e he hbn
      rw [hon, (getD_of_ready hun).1] at hli
      cases hli

theorem ThroughL.step {n : Nat} (hB : settledB ops n = true) (hn : a0.tmps.size = n) {listed : Array Bool} {a : Act} {w w' : World} (h : ThroughL ops Γ C a0 listed a w) {i : Nat} {o : Oper} (hi : ops[i]? = some o)
    (hr : i ∈ Region.ready .any ops listed) {v : Value} (hC : C w') (hx : ∀ t u, lives ops i o t = true → Γ t u w → Γ t u w') (hg : ∀ d, o.dst = some d → Γ d v w') : ThroughL ops Γ C a0 (listed.setIfInBounds i true) (a.put o.dst v) w' := by
  obtain ⟨_, hd, _⟩ := settled_spec hB hi
  obtain ⟨hun, o', ho', hall⟩ := mem_ready.1 hr
  rw [hi] at ho'
  cases ho'
  have hil := (getD_of_ready hun).2
  have hold : ∀ (t : Tmp) (j : Nat) (q : Oper), ops[j]? = some q → q.dst = some t → listed.getD j false = true → o.dst ≠ some t → Needed ops (listed.setIfInBounds i true) t → Needed ops listed t ∧ lives ops i o t = true := by
    rintro t j q hq hqt hlj hot ⟨k, p, hp, hk, ht⟩
    have hlat : laterB ops i t = false := by
      cases hb : laterB ops i t with
      | false => rfl
      | true =>
        exfalso
        unfold laterB at hb
        rw [List.any_eq_true] at hb
        obtain ⟨m, _, hm⟩ := hb
        cases hom : ops[m]? with
        | none => rw [hom] at hm; simp at hm
        | some r =>
          rw [hom] at hm
          simp only [Option.map_some, Option.getD_some, Bool.and_eq_true, beq_iff_eq] at hm
          by_cases hmj : m = j
          · subst hmj
            rw [hq] at hom
            cases hom
            have := far_listed h.closed 8 q i (fun e he hbn => h.closed m q hq hlj e he hbn) hm.2
            rw [(getD_of_ready hun).1] at this
            cases this
          · obtain ⟨_, hd2, _⟩ := settled_spec hB hq
            exact (hd2 t hqt).2.2 m r hom hmj hm.1
    have hki : k ≠ i := by
      rintro rfl
      rw [show (listed.setIfInBounds k true).getD k false = true by simp [hil]] at hk
      cases hk
    rw [getD_set_ne false hki.symm] at hk
    refine ⟨⟨k, p, hp, hk, ht⟩, ?_⟩
    unfold lives
    rw [Bool.and_eq_true, Bool.and_eq_true]
    refine ⟨⟨by simp [hot], by simp [hlat]⟩, ?_⟩
    rw [List.any_eq_true]
    refine ⟨k, List.mem_range.2 (Array.getElem?_eq_some_iff.1 hp).1, ?_⟩
    have hnw : waitsFar ops 8 o k = false := by
      cases hw : waitsFar ops 8 o k with
      | false => rfl
      | true =>
        have := far_listed h.closed 8 o k (fun e he hbn => hall e he hbn) hw
        rw [hk] at this
        cases this
    simp [hki, hnw, hp, ht]
  refine ⟨hC, by simpa using h.size, ?_, by rw [size_put]; exact h.slots, fun j p d hp hpd hlj hnd => ?_, fun j p hp hlj e he hb => ?_, fun t ht => ?_⟩
  · rw [← h.defers]; cases o.dst <;> rfl
  · by_cases hji : j = i
    · subst hji
      rw [hi] at hp
      cases hp
      rw [hpd, slot_put (by rw [h.slots, hn]; exact (hd d hpd).1), if_pos rfl]
      exact hg d hpd
    · rw [getD_set_ne false (Ne.symm hji)] at hlj
      have hod : o.dst ≠ some d := fun he => (hd d he).2.2 j p hp hji hpd
      obtain ⟨hnd1, hlv⟩ := hold d j p hp hpd hlj hod hnd
      have h1 := hx d _ hlv (h.good j p d hp hpd hlj hnd1)
      cases ho : o.dst with
      | none => exact h1
      | some e =>
        rw [slot_put (by rw [h.slots, hn]; exact (hd e ho).1), if_neg]
        · exact h1
        · rintro rfl
          exact (hd e ho).2.2 j p hp hji hpd
  · by_cases hji : j = i
    · subst hji
      rw [hi] at hp
      cases hp
      exact getD_set_true (hall e he hb)
    · rw [getD_set_ne false (Ne.symm hji)] at hlj
      exact getD_set_true (h.closed j p hp hlj e he hb)
  · have hti : o.dst ≠ some t := ht i o hi (by simp [hil])
    have hold2 : slot a t = slot a0 t := h.rest t fun j p hp hlj => ht j p hp (getD_set_true hlj)
    cases ho : o.dst with
    | none => exact hold2
    | some e =>
      rw [slot_put (by rw [h.slots, hn]; exact (hd e ho).1), if_neg (fun he => hti (by rw [ho, he]))]
      exact hold2
end

/-- The last one waits for all others. -/
def lastB (l : List Oper) (o : Oper) : Bool := (List.range l.length).all fun i => waitsFar (l ++ [o]).toArray 8 o i
section
variable {P : Program} {Γ : Tmp → Value → World → Prop} {C : World → Prop} {a0 : Act}

theorem wpAny_live {n : Nat} {l : List Oper} {o : Oper} {Q : Exit → Act → World → Prop} (hB : settledB (l ++ [o]).toArray n = true) (hL : lastB l o = true) (hn : a0.tmps.size = n) (h : ∀ i p, l[i]? = some p → OwedL P (l ++ [o]).toArray Γ C a0 i p)
    (hQ : ∀ (vs : Tmp → Value) (w : World), C w → (∀ p ∈ l, ∀ d, p.dst = some d → d ∈ o.looksAt (l ++ [o]).toArray → Γ d (vs d) w) → Region.wanted o (yielded (l ++ [o]).toArray (putsOf l vs a0).tmps) = true ∧ o.wp P (putsOf l vs a0) w (fun a' w' => Q .normal a' w') (fun _ _ _ => False)) :
    ∀ (fuel : Nat) (listed : Array Bool) (a : Act) (w : World), ThroughL (l ++ [o]).toArray Γ C a0 listed a w → listed.getD l.length false = false → listed.toList.count false = fuel → wpAny P .any (l ++ [o]).toArray Q fuel listed a w := by
  have hsz : (l ++ [o]).toArray.size = l.length + 1 := by simp
  have hoL : (l ++ [o]).toArray[l.length]? = some o := by simp
  intro fuel
  induction fuel with
  | zero =>
    intro listed a w ht hun hc
    exfalso
    have hlt : l.length < listed.size := by rw [ht.size, hsz]; omega
    have hm : false ∈ listed.toList := by
      have h1 := hun
      simp [hlt] at h1
      rw [← h1]
      exact Array.mem_toList_iff.2 (Array.getElem_mem hlt)
    rw [List.count_eq_zero] at hc
    exact hc hm
  | succ fuel ih =>
    intro listed a w ht hun hc
    refine ⟨fun hr => ?_, fun i hi => ?_⟩
    · have := ready_some hB ht.size hr l.length (by rw [hsz]; omega)
      rw [hun] at this
      cases this
    have hni := getD_of_ready (mem_ready.1 hi).1
    have hc' : (listed.setIfInBounds i true).toList.count false = fuel := by
      have hset : (listed.setIfInBounds i true).toList = listed.toList.set i true := by simp
      have hget : listed.toList[i]'(by simpa using hni.2) = false := by
        have := hni.1
        simpa [hni.2] using this
      rw [hset, List.count_set (by simpa using hni.2), hget]
      simp [hc]
    obtain ⟨_, p, hp, hall⟩ := mem_ready.1 hi
    have hk := ht.known hB hp hi
    by_cases hil : i = l.length
    · subst hil
      rw [hoL] at hp
      cases hp
      have hlisted : ∀ j, j < l.length → listed.getD j false = true := by
        intro j hj
        unfold lastB at hL
        have hw := List.all_eq_true.1 hL j (List.mem_range.2 hj)
        exact far_listed ht.closed 8 o j (fun e he hbn => hall e he hbn) hw
      have hmem : ∀ q ∈ l, ∃ j, j < l.length ∧ (l ++ [o]).toArray[j]? = some q := by
        intro q hq
        obtain ⟨j, hj, rfl⟩ := List.getElem_of_mem hq
        exact ⟨j, hj, by simp [List.getElem?_append_left hj, List.getElem?_eq_getElem hj]⟩
      have hfr : a = putsOf l (slot a) a0 := by
        refine slot_ext (by rw [size_putsOf]; exact ht.slots) (by rw [defers_putsOf]; exact ht.defers) fun t => ?_
        rw [slot_putsOf]
        · split
          · rfl
          · rename_i hno
            refine ht.rest t fun j q hq hlj hqt => hno ?_
            rw [List.any_eq_true]
            have hj : j < l.length := by
              have h1 := (Array.getElem?_eq_some_iff.1 hq).1
              rw [hsz] at h1
              rcases Nat.lt_or_ge j l.length with h2 | h2
              · exact h2
              · have : j = l.length := by omega
                subst this
                rw [hun] at hlj
                cases hlj
            have hq2 : l[j]? = some q := by simpa [List.getElem?_append_left hj] using hq
            exact ⟨q, List.mem_of_getElem? hq2, by simp [hqt]⟩
        · intro q hq d hd
          obtain ⟨j, _, hj⟩ := hmem q hq
          rw [hn]
          exact ((settled_spec hB hj).2.1 d hd).1
      obtain ⟨q1, q2⟩ := hQ (slot a) w ht.world fun q hq d hd hlook => by
        obtain ⟨j, hjl, hj⟩ := hmem q hq
        exact ht.good j q d hj hd (hlisted j hjl) ⟨l.length, o, hoL, hun, hlook⟩
      rw [← hfr] at q1 q2
      unfold wpOp
      simp only [hoL]
      rw [if_pos q1]
      refine .inl (wp_all q2 fun a' w' hq => ?_)
      have hready : Region.ready .any (l ++ [o]).toArray (listed.setIfInBounds l.length true) = [] := by
        refine List.eq_nil_iff_forall_not_mem.2 fun j hj => ?_
        have hj1 := getD_of_ready (mem_ready.1 hj).1
        have hjs : j < l.length + 1 := by have := hj1.2; rw [Array.size_setIfInBounds, ht.size, hsz] at this; exact this
        by_cases hjl : j = l.length
        · subst hjl
          have := hj1.1
          rw [show (listed.setIfInBounds l.length true).getD l.length false = true by simp [hni.2]] at this
          cases this
        · have := hj1.1
          rw [getD_set_ne false (Ne.symm hjl), hlisted j (by omega)] at this
          cases this
      cases fuel with
      | zero => exact ⟨hready, hq⟩
      | succ f => exact ⟨fun _ => hq, fun j hj => by rw [hready] at hj; simp at hj⟩
    · have hpl : l[i]? = some p := by
        have h1 := (Array.getElem?_eq_some_iff.1 hp).1
        rw [hsz] at h1
        simpa [List.getElem?_append_left (show i < l.length by omega)] using hp
      obtain ⟨hw, hob⟩ := h i p hpl a w ht.world hk
      unfold wpOp
      simp only [hp]
      rw [if_pos hw]
      refine .inl (wp_all hob ?_)
      rintro a' w' ⟨v, rfl, hC, hx, hg⟩
      exact ih _ _ _ (ht.step hB hn hp hi hC hx hg) (by rw [getD_set_ne false hil]; exact hun) hc'

theorem owedl_of {ops : Array Oper} {i : Nat} {o : Oper} {d : Tmp} (hg : o.guard = none) (hd : o.dst = some d)
    (h : ∀ a w, C w → Known ops Γ a0 o a w → ∀ K : Act → World → Prop, (∀ v w', C w' → (∀ t u, lives ops i o t = true → Γ t u w → Γ t u w') → Γ d v w' → K (a.put (some d) v) w') → o.wp P a w K (fun _ _ _ => False)) : OwedL P ops Γ C a0 i o := by
  intro a w hC hK
  refine ⟨by simp [Region.wanted, hg], h a w hC hK _ fun v w' hC' hx hG => ⟨v, by rw [hd], hC', hx, fun e he => ?_⟩⟩
  rw [hd] at he
  cases he
  exact hG
theorem owedl_val {ops : Array Oper} {i : Nat} {o : Oper} {d : Tmp} (c : Value) (hg : o.guard = none) (hd : o.dst = some d) (hG : ∀ w, Γ d c w)
    (h : ∀ a w, C w → Known ops Γ a0 o a w → (execOp a.eval o).run P w = .ok (.value c) w) : OwedL P ops Γ C a0 i o :=
  owedl_of hg hd fun a w hC hK K hk => by
    have hr := hk _ w hC (fun _ _ _ h => h) (hG w)
    unfold Oper.wp
    rw [h a w hC hK, ← hd] at *
    exact hr
theorem owedl_move {ops : Array Oper} {i : Nat} {o : Oper} {d t : Tmp} (hg : o.guard = none) (hd : o.dst = some d) (ho : o.op = .move (.tmp t) ∨ o.op = .assign (.tmp t))
    (h : ∀ a w, C w → Known ops Γ a0 o a w → Γ d (slot a t) w) : OwedL P ops Γ C a0 i o :=
  owedl_of hg hd fun a w hC hK K hk => by
    have hr := hk _ w hC (fun _ _ _ h => h) (h a w hC hK)
    unfold Oper.wp execOp
    rcases ho with ho | ho <;> simp only [ho, Sem.run_pure, Oper.upon, eval_slot] <;> rw [hd] <;> exact hr
/-- Of each operation of a list but its last, from the i-th on. -/
def OwedLs (P : Program) (ops : Array Oper) (Γ : Tmp → Value → World → Prop) (C : World → Prop) (a0 : Act) : Nat → List Oper → Prop
  | _, [] => True
  | _, [_] => True
  | i, o :: p :: r => OwedL P ops Γ C a0 i o ∧ OwedLs P ops Γ C a0 (i + 1) (p :: r)
theorem owedls_all {ops : Array Oper} : ∀ {l : List Oper} {k : Nat}, OwedLs P ops Γ C a0 k l → ∀ i p, l.dropLast[i]? = some p → OwedL P ops Γ C a0 (k + i) p
  | [], _, _, _, _, hp => by simp at hp
  | [_], _, _, _, _, hp => by simp at hp
  | o :: q :: r, k, h, 0, p, hp => by
    obtain rfl : o = p := by simpa using hp
    exact h.1
  | o :: q :: r, k, h, i + 1, p, hp => by
    have := owedls_all h.2 i p (by simpa using hp)
    rwa [show k + 1 + i = k + (i + 1) by omega] at this
/-- What is said of three temporaries, and that all others hold one value. -/
def Said3 (t1 t2 t3 : Tmp) (G1 G2 G3 : Value → World → Prop) (v : Tmp → Value) : Tmp → Value → World → Prop := fun t u w =>
  if t = t1 then G1 u w else if t = t2 then G2 u w else if t = t3 then G3 u w else u = v t
theorem not_lives {b : Bool} {p : Prop} (hb : b = false) (h : b = true) : p := by rw [hb] at h; cases h
theorem said3_kept {t1 t2 t3 : Tmp} {G1 G2 G3 : Value → World → Prop} {v : Tmp → Value} {w w' : World} {ops : Array Oper} {i : Nat} {o : Oper} (h1 : lives ops i o t1 = true → ∀ u, G1 u w → G1 u w') (h2 : lives ops i o t2 = true → ∀ u, G2 u w → G2 u w') (h3 : lives ops i o t3 = true → ∀ u, G3 u w → G3 u w') :
    ∀ t u, lives ops i o t = true → Said3 t1 t2 t3 G1 G2 G3 v t u w → Said3 t1 t2 t3 G1 G2 G3 v t u w' := by
  intro t u hl h
  unfold Said3 at *
  split at h
  · rename_i he
    rw [if_pos he]
    exact h1 (by rwa [he] at hl) u h
  · rename_i hn
    rw [if_neg hn]
    split at h
    · rename_i he
      rw [if_pos he]
      exact h2 (by rwa [he] at hl) u h
    · rename_i hn
      rw [if_neg hn]
      split at h
      · rename_i he
        rw [if_pos he]
        exact h3 (by rwa [he] at hl) u h
      · rename_i hn
        rw [if_neg hn]
        exact h

/-- THE RULE. -/
theorem wp_region_live {id n : Nat} {l : List Oper} {o : Oper} {Q : Exit → Act → World → Prop} {w : World} (hm : P.follows .mixedOrders = true) (hB : settledB (l ++ [o]).toArray n = true) (hL : lastB l o = true) (hn : a0.tmps.size = n) (hC : C w.drew)
    (h : ∀ i p, l[i]? = some p → OwedL P (l ++ [o]).toArray Γ C a0 i p)
    (hQ : ∀ (vs : Tmp → Value) (w : World), C w → (∀ p ∈ l, ∀ d, p.dst = some d → d ∈ o.looksAt (l ++ [o]).toArray → Γ d (vs d) w) → Region.wanted o (yielded (l ++ [o]).toArray (putsOf l vs a0).tmps) = true ∧ o.wp P (putsOf l vs a0) w (fun a' w' => Q .normal a' w') (fun _ _ _ => False)) :
    (Code.region id (l ++ [o]).toArray true).wp P Q a0 w := by
  refine wp_region_any hm (wpAny_live (C := C) (Γ := Γ) (n := n) hB hL hn h hQ _ _ _ _ ?_ (none_yet _ _) ?_)
  · exact ⟨hC, by simp, rfl, rfl, fun j o d hj _ hl => absurd hl (by rw [none_yet]; decide), fun j o hj hl => absurd hl (by rw [none_yet]; decide), fun _ _ => rfl⟩
  · simp

/-- It is yielded ahead of the last operation, which looks at it. -/
def looksB (ops : Array Oper) (o : Oper) (d : Tmp) : Bool := (ops.toList.dropLast.any fun p => p.dst == some d) && (o.looksAt ops).contains d
theorem wp_region_live2 {id n : Nat} {ops : Array Oper} {o : Oper} {Q : Exit → Act → World → Prop} {w : World} (ho : ops.toList.getLast? = some o) (hm : P.follows .mixedOrders = true) (hB : settledB ops n = true) (hL : lastB ops.toList.dropLast o = true) (hn : a0.tmps.size = n) (hC : C w.drew)
    (h : OwedLs P ops Γ C a0 0 ops.toList)
    (hQ : ∀ (vs : Tmp → Value) (w : World), C w → (∀ d, looksB ops o d = true → Γ d (vs d) w) → Region.wanted o (yielded ops (putsOf ops.toList.dropLast vs a0).tmps) = true ∧ o.wp P (putsOf ops.toList.dropLast vs a0) w (fun a' w' => Q .normal a' w') (fun _ _ _ => False)) :
    (Code.region id ops true).wp P Q a0 w := by
  have he : (ops.toList.dropLast ++ [o]).toArray = ops := by
    have h1 : ops.toList.dropLast ++ [o] = ops.toList := by
      have h2 : ops.toList ≠ [] := by intro h3; rw [h3] at ho; simp at ho
      have h3 : ops.toList.getLast h2 = o := by rw [List.getLast?_eq_some_getLast h2] at ho; injection ho
      rw [← h3]
      exact List.dropLast_concat_getLast h2
    rw [h1]
  have hr := wp_region_live (P := P) (id := id) (l := ops.toList.dropLast) (o := o) (Q := Q) (w := w) (Γ := Γ) (C := C) (a0 := a0) (n := n) hm (by rw [he]; exact hB) hL hn hC
    (fun i p hp => by rw [he]; have := owedls_all h i p hp; rwa [Nat.zero_add] at this)
    (fun vs w' hC' hg => by
      rw [he]
      refine hQ vs w' hC' fun d hd => ?_
      unfold looksB at hd
      rw [Bool.and_eq_true, List.any_eq_true] at hd
      obtain ⟨⟨p, hp, hpd⟩, hl⟩ := hd
      exact hg p hp d (by simpa using hpd) (by rw [he]; simpa using hl))
  rwa [he] at hr
theorem puts_in {l : List Oper} {vs : Tmp → Value} {n : Nat} {t : Tmp} (hn : a0.tmps.size = n) (h : ((l.all fun p => (p.dst.map fun d => decide (d < n)).getD true) && l.any fun p => p.dst == some t) = true) : slot (putsOf l vs a0) t = vs t := by
  rw [Bool.and_eq_true] at h
  rw [slot_putsOf _ _ _ _ (fun o ho d hd => by
    have := List.all_eq_true.1 h.1 o ho
    rw [hd] at this
    rw [hn]
    simpa using this)]
  rw [if_pos h.2]
/-- The value of a temporary, of a list. -/
def pickV : List (Tmp × Value) → Tmp → Value
  | [], _ => undef
  | (s, v) :: r, t => if s = t then v else pickV r t
section
variable {t1 t2 t3 : Tmp} {G1 G2 G3 : Value → World → Prop} {v : Tmp → Value} {u : Value} {w : World}
theorem said3_1 (h : G1 u w) : Said3 t1 t2 t3 G1 G2 G3 v t1 u w := by unfold Said3; rw [if_pos rfl]; exact h
theorem said3_2 (hn : t2 ≠ t1) (h : G2 u w) : Said3 t1 t2 t3 G1 G2 G3 v t2 u w := by unfold Said3; rw [if_neg hn, if_pos rfl]; exact h
theorem said3_3 (hn : t3 ≠ t1) (hm : t3 ≠ t2) (h : G3 u w) : Said3 t1 t2 t3 G1 G2 G3 v t3 u w := by unfold Said3; rw [if_neg hn, if_neg hm, if_pos rfl]; exact h
theorem un3_1 (h : Said3 t1 t2 t3 G1 G2 G3 v t1 u w) : G1 u w := by unfold Said3 at h; rwa [if_pos rfl] at h
theorem un3_2 (hn : t2 ≠ t1) (h : Said3 t1 t2 t3 G1 G2 G3 v t2 u w) : G2 u w := by unfold Said3 at h; rwa [if_neg hn, if_pos rfl] at h
theorem un3_3 (hn : t3 ≠ t1) (hm : t3 ≠ t2) (h : Said3 t1 t2 t3 G1 G2 G3 v t3 u w) : G3 u w := by unfold Said3 at h; rwa [if_neg hn, if_neg hm, if_pos rfl] at h
theorem un3_v {t : Tmp} (h : Said3 t1 t2 t3 G1 G2 G3 v t u w) (hn : t ≠ t1 ∧ t ≠ t2 ∧ t ≠ t3) : u = v t := by unfold Said3 at h; rwa [if_neg hn.1, if_neg hn.2.1, if_neg hn.2.2] at h
theorem said3_v {t : Tmp} (h : t ≠ t1 ∧ t ≠ t2 ∧ t ≠ t3) : Said3 t1 t2 t3 G1 G2 G3 v t u w ↔ u = v t := by unfold Said3; rw [if_neg h.1, if_neg h.2.1, if_neg h.2.2]
end
/-- .. and of a fourth one. -/
def Said4 (t0 : Tmp) (G0 : Value → World → Prop) (R : Tmp → Value → World → Prop) : Tmp → Value → World → Prop := fun t u w => if t = t0 then G0 u w else R t u w
section
variable {t0 : Tmp} {G0 : Value → World → Prop} {R : Tmp → Value → World → Prop} {u : Value} {w : World}
theorem said4_at (h : G0 u w) : Said4 t0 G0 R t0 u w := by unfold Said4; rw [if_pos rfl]; exact h
theorem un4_at (h : Said4 t0 G0 R t0 u w) : G0 u w := by unfold Said4 at h; rwa [if_pos rfl] at h
theorem said4_off {t : Tmp} (hn : t ≠ t0) (h : Said4 t0 G0 R t u w) : R t u w := by unfold Said4 at h; rwa [if_neg hn] at h
theorem said4_on {t : Tmp} (hn : t ≠ t0) (h : R t u w) : Said4 t0 G0 R t u w := by unfold Said4; rw [if_neg hn]; exact h
theorem said4_kept {w w' : World} {ops : Array Oper} {i : Nat} {o : Oper} (h0 : lives ops i o t0 = true → ∀ u, G0 u w → G0 u w') (h : ∀ t u, lives ops i o t = true → R t u w → R t u w') :
    ∀ t u, lives ops i o t = true → Said4 t0 G0 R t u w → Said4 t0 G0 R t u w' := by
  intro t u hl hs
  unfold Said4 at *
  split at hs
  · rename_i he
    rw [if_pos he]
    exact h0 (by rwa [he] at hl) u hs
  · rename_i hn
    rw [if_neg hn]
    exact h t u hl hs
end
theorem rd_of_blk {w : World} {g n sz : Nat} {t : TypeId} {xs : List Value} (h : Blk w g t xs.toArray) (hl : xs.length = n * sz) : Rd w (g + 1) sz (some ⟨g, 0, none⟩) n xs := by
  refine ⟨hl, .inr ⟨_, rfl, Nat.lt_succ_self _, fun j u hj => ?_⟩⟩
  have hadd : (⟨g, 0, none⟩ : Addr).add j = ⟨g, j, none⟩ := by unfold Addr.add; split <;> simp_all
  rw [hadd, h.cell]
  simpa using hj
theorem wp_append_rd {o : Oper} {a : Act} {w : World} {K : Act → World → Prop} {Q : Exit → Act → World → Prop} (s x : Operand) (t : TypeId)
    (ho : o.op = .call { callee := .builtin .append, args := #[s, x], argTypes := #[t, t] })
    (base : Nat) (e : TypeId) (i : TypeInfo) (z : Value) (size bytes : Nat) (ht : P.underlying t = some (.slice e)) (hi : P.info? e = some i) (hz : i.zero = some z)
    (hsize : i.size = size) (hby : i.bytes = bytes) (hzs : z.cells.size = size) (hsz : 0 < size) (v : Value) (n : Nat) (xs : List Value) (hs : a.eval s = v) (hown : w.ownsRow base e size v n xs)
    (B : Nat) (A : Option Addr) (m c : Nat) (news : List Value) (hx : a.eval x = .slice A m c) (hr : Rd w B size A m news) (h1 : ∀ u ∈ news, u.oneCell' = true) (h63 : n + m ≤ maxLen) (hbytes : (n + m) * bytes ≤ 140737488355328) (hbase : base ≤ w.heap.size)
    (h : ∀ v' w', w'.ownsRow base e size v' (n + m) (xs ++ news) → w.grownBy w' v.ownBlock → K (a.put o.dst v') w') : Oper.wp P o a w K Q := by
  obtain ⟨v', w', hrun, h2, h3⟩ := run_append_rd (P := P) w base t o.type e i z size bytes ht hi hz hsize hby hzs hsz v n xs hown B A m c news hr h1 h63 hbytes hbase
  unfold Oper.wp
  simp [execOp, ho, resolve, invoke, builtin, hs, hx, hrun, Result.andThen]
  exact h v' w' h2 h3
end
end Go.Proofs.Ytdkjdiamekfbdaa
