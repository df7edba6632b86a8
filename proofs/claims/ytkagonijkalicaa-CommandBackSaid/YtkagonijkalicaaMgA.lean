/-
  Several texts in one: ViPlain, TgPlain, TgSkPlain, TlPlain, TlBack, TlMore, TlLong, FoPlain, CmRowP, CmCmd, CmPlain, CmRule.
-/

set_option linter.unusedVariables false
set_option linter.unusedSimpArgs false

/-
  Plain facts on numbers in groups of seven bits: no program, no walk.
-/
namespace Go.Proofs.Ytkagonijkalicaa.Vi

theorem getD_at (l : List Nat) (d : Nat) {k : Nat} (h : k < l.length) : l.getD k d = l[k] := by simp [List.getD, h]

/-- n in groups of seven bits, the lowest first; 'f' groups more at most. -/
def putF : Nat → Nat → List Nat
  | 0, n => [n]
  | f + 1, n => if n < 128 then [n] else (n % 128 + 128) :: putF f (n / 128)
def put (n : Nat) : List Nat := putF 9 n

/-- What is taken: the number, how many bytes, which error. -/
def tk : Nat → Nat → Nat → List Nat → Nat × Nat × Nat
  | 0, _, _, _ => (0, 0, 3)
  | _ + 1, _, _, [] => (0, 0, 2)
  | f + 1, i, n, c :: r =>
    if (i = 9 ∧ 1 < c) ∨ (0 < i ∧ c = 0) then (0, 0, 3)
    else if c < 128 then (n + c * 2 ^ (7 * i), i + 1, 0)
    else tk f (i + 1) (n + (c % 128) * 2 ^ (7 * i)) r
def take (bs : List Nat) : Nat × Nat × Nat := tk 10 0 0 bs

theorem tk_bad {f i n c : Nat} {r : List Nat} (h : (i = 9 ∧ 1 < c) ∨ (0 < i ∧ c = 0)) : tk (f + 1) i n (c :: r) = (0, 0, 3) := by rw [tk, if_pos h]
theorem tk_end {f i n c : Nat} {r : List Nat} (h : ¬ ((i = 9 ∧ 1 < c) ∨ (0 < i ∧ c = 0))) (hc : c < 128) : tk (f + 1) i n (c :: r) = (n + c * 2 ^ (7 * i), i + 1, 0) := by rw [tk, if_neg h, if_pos hc]
theorem tk_on {f i n c : Nat} {r : List Nat} (h : ¬ ((i = 9 ∧ 1 < c) ∨ (0 < i ∧ c = 0))) (hc : ¬ c < 128) : tk (f + 1) i n (c :: r) = tk f (i + 1) (n + (c % 128) * 2 ^ (7 * i)) r := by rw [tk, if_neg h, if_neg hc]

theorem pow7 (i : Nat) : 2 ^ (7 * (i + 1)) = 128 * 2 ^ (7 * i) := by
  rw [show 7 * (i + 1) = 7 * i + 7 from by omega, Nat.pow_add]; omega
theorem pow71 (f : Nat) : 2 ^ (7 * (f + 1) + 1) = 128 * 2 ^ (7 * f + 1) := by
  rw [show 7 * (f + 1) + 1 = (7 * f + 1) + 7 from by omega, Nat.pow_add]; omega

theorem putF_len (f n : Nat) : 1 ≤ (putF f n).length ∧ (putF f n).length ≤ f + 1 := by
  induction f generalizing n with
  | zero => simp [putF]
  | succ f ih =>
    unfold putF
    split
    · simp
    · have := ih (n / 128); simp only [List.length_cons]; omega
theorem put_len (n : Nat) : 1 ≤ (put n).length ∧ (put n).length ≤ 10 := putF_len 9 n

theorem putF_byte (f n : Nat) (h : n < 2 ^ (7 * f + 1)) : ∀ c ∈ putF f n, c < 256 := by
  induction f generalizing n with
  | zero => intro c hc; simp [putF] at hc; subst hc; simp at h; omega
  | succ f ih =>
    rw [pow71] at h
    unfold putF
    split
    · intro c hc; simp at hc; omega
    · intro c hc
      rcases List.mem_cons.1 hc with rfl | hc
      · omega
      · exact ih _ (by omega) c hc
theorem put_byte (n : Nat) (h : n < 18446744073709551616) : ∀ c ∈ put n, c < 256 := putF_byte 9 n h

/-- All bytes but the last one go on; the last one does not. -/
theorem putF_more (f n k : Nat) (h : n < 2 ^ (7 * f + 1)) (hk : k + 1 < (putF f n).length) : 128 ≤ (putF f n).getD k 0 := by
  induction f generalizing n k with
  | zero => simp [putF] at hk
  | succ f ih =>
    rw [pow71] at h
    unfold putF at hk ⊢
    split at hk
    · simp at hk
    · rename_i hn
      rw [if_neg hn]
      cases k with
      | zero => simp
      | succ k => simp only [List.getD_cons_succ]; exact ih (n / 128) k (by omega) (by simpa using hk)
theorem put_more (n k : Nat) (h : n < 18446744073709551616) (hk : k + 1 < (put n).length) : 128 ≤ (put n).getD k 0 := putF_more 9 n k h hk

theorem putF_last (f n : Nat) (h : n < 2 ^ (7 * f + 1)) (k : Nat) (hk : k + 1 = (putF f n).length) : (putF f n).getD k 0 < 128 := by
  induction f generalizing n k with
  | zero => simp [putF] at hk h ⊢; subst hk; simp; omega
  | succ f ih =>
    rw [pow71] at h
    unfold putF at hk ⊢
    split at hk
    · rename_i hn
      rw [if_pos hn]
      have : k = 0 := by simpa using hk
      subst this; simpa using hn
    · rename_i hn
      rw [if_neg hn]
      have := putF_len f (n / 128)
      simp only [List.length_cons] at hk
      cases k with
      | zero => omega
      | succ k => simp only [List.getD_cons_succ]; exact ih (n / 128) (by omega) k (by omega)

theorem tk_putF (f i s n : Nat) (rest : List Nat) (hi : i + f = 9) (hn : n < 2 ^ (7 * f + 1)) (h0 : i = 0 ∨ n ≠ 0) :
    tk (f + 1) i s (putF f n ++ rest) = (s + n * 2 ^ (7 * i), i + (putF f n).length, 0) := by
  induction f generalizing i s n with
  | zero =>
    have h1 : n < 2 := by simpa using hn
    simp only [putF, List.cons_append, List.nil_append, tk]
    rw [if_neg (by omega), if_pos (by omega)]
    simp
  | succ f ih =>
    rw [pow71] at hn
    unfold putF
    split
    · rename_i hc
      simp only [List.cons_append, List.nil_append, tk]
      rw [if_neg (by omega), if_pos (by omega)]
      simp
    · rename_i hc
      simp only [List.cons_append, tk]
      rw [if_neg (by omega), if_neg (by omega), ih (i + 1) _ (n / 128) (by omega) (by omega) (by omega)]
      have e : (n % 128 + 128) % 128 = n % 128 := by omega
      have hd : n % 128 + 128 * (n / 128) = n := Nat.mod_add_div n 128
      rw [e, pow7]
      refine Prod.ext ?_ (Prod.ext ?_ rfl)
      · show s + n % 128 * 2 ^ (7 * i) + n / 128 * (128 * 2 ^ (7 * i)) = s + n * 2 ^ (7 * i)
        rw [Nat.add_assoc, ← Nat.mul_assoc, ← Nat.add_mul, Nat.mul_comm (n / 128) 128, hd]
      · show i + 1 + _ = _
        simp only [List.length_cons]; omega
theorem take_put (n : Nat) (rest : List Nat) (h : n < 18446744073709551616) : take (put n ++ rest) = (n, (put n).length, 0) := by
  have := tk_putF 9 0 0 n rest rfl h (.inl rfl)
  simpa [take, put] using this
theorem take_put0 (n : Nat) (h : n < 18446744073709551616) : take (put n) = (n, (put n).length, 0) := by
  simpa using take_put n [] h

/-- What is taken is what it was put as. -/
theorem tk_back (f i s : Nat) (bs : List Nat) (x k : Nat) (hi : i + f = 9) (hb : ∀ c ∈ bs, c < 256) (h : tk (f + 1) i s bs = (x, k, 0)) :
    ∃ n, x = s + n * 2 ^ (7 * i) ∧ n < 2 ^ (7 * f + 1) ∧ (i = 0 ∨ n ≠ 0) ∧ i < k ∧ k - i ≤ bs.length ∧ bs.take (k - i) = putF f n := by
  induction f generalizing i s bs with
  | zero =>
    cases bs with
    | nil => simp [tk] at h
    | cons c r =>
      simp only [tk] at h
      split at h
      · simp at h
      · rename_i hn
        split at h
        · simp only [Prod.mk.injEq] at h
          refine ⟨c, h.1.symm, by simp; omega, by omega, by omega, by simp; omega, ?_⟩
          rw [← h.2.1, show i + 1 - i = 1 by omega]; simp [putF]
        · simp at h
  | succ f ih =>
    cases bs with
    | nil => simp [tk] at h
    | cons c r =>
      rw [tk] at h
      split at h
      · simp at h
      · rename_i hn
        split at h
        · rename_i hc
          simp only [Prod.mk.injEq] at h
          refine ⟨c, h.1.symm, by rw [pow71]; have := Nat.two_pow_pos (7 * f + 1); omega, by omega, by omega, by simp; omega, ?_⟩
          rw [← h.2.1, show i + 1 - i = 1 by omega]; simp [putF, hc]
        · rename_i hc
          have hc2 := hb c (by simp)
          obtain ⟨m, h1, h2, h3, h4, h5, h6⟩ := ih (i + 1) _ r (by omega) (fun c hc => hb c (by simp [hc])) h
          have e1 : (c % 128 + m * 128) % 128 = c % 128 := by omega
          have e2 : (c % 128 + m * 128) / 128 = m := by omega
          refine ⟨c % 128 + m * 128, ?_, by rw [pow71]; omega, by omega, by omega, by simp only [List.length_cons]; omega, ?_⟩
          · rw [h1, pow7, Nat.add_mul]
            rw [Nat.mul_assoc, Nat.add_assoc]
          · rw [show k - i = (k - (i + 1)) + 1 by omega, List.take_succ_cons, h6]
            unfold putF
            rw [if_neg (by omega), e1, e2, show c % 128 + 128 = c by omega]
            cases f <;> rfl
theorem take_back (bs : List Nat) (x k : Nat) (hb : ∀ c ∈ bs, c < 256) (h : take bs = (x, k, 0)) :
    x < 18446744073709551616 ∧ 1 ≤ k ∧ k ≤ bs.length ∧ bs.take k = put x := by
  obtain ⟨n, h1, h2, _, h4, h5, h6⟩ := tk_back 9 0 0 bs x k rfl hb h
  have : x = n := by simpa using h1
  subst this
  exact ⟨h2, by omega, by omega, by simpa [put] using h6⟩

/-- The errors: short just if all bytes that there are go on, and there are fewer than may be. -/
theorem tk_err (f i s : Nat) (bs : List Nat) (hi : i + f = 10) : (tk f i s bs).2.2 = 0 ∨ tk f i s bs = (0, 0, 2) ∧ bs.length < f ∧ (∀ c ∈ bs, 128 ≤ c) ∨ tk f i s bs = (0, 0, 3) ∧ ¬ (bs.length < f ∧ ∀ c ∈ bs, 128 ≤ c) := by
  induction f generalizing i s bs with
  | zero => exact .inr (.inr ⟨rfl, by omega⟩)
  | succ f ih =>
    cases bs with
    | nil => exact .inr (.inl ⟨rfl, by simp, by simp⟩)
    | cons c r =>
      rw [tk]
      split
      · rename_i hc
        refine .inr (.inr ⟨rfl, fun ⟨h1, h2⟩ => ?_⟩)
        have := h2 c (by simp)
        rcases hc with hc | hc
        · simp only [List.length_cons] at h1; omega
        · omega
      · split
        · exact .inl rfl
        · rename_i hc
          rcases ih (i + 1) (s + c % 128 * 2 ^ (7 * i)) r (by omega) with h | ⟨h, h1, h2⟩ | ⟨h, h1⟩
          · exact .inl h
          · exact .inr (.inl ⟨h, by simp; omega, fun x hx => by rcases List.mem_cons.1 hx with rfl | hx; omega; exact h2 x hx⟩)
          · exact .inr (.inr ⟨h, fun ⟨h2, h3⟩ => h1 ⟨by simpa using h2, fun x hx => h3 x (by simp [hx])⟩⟩)
theorem take_err (bs : List Nat) : (take bs).2.2 = 0 ∨ take bs = (0, 0, 2) ∧ bs.length < 10 ∧ (∀ c ∈ bs, 128 ≤ c) ∨ take bs = (0, 0, 3) ∧ ¬ (bs.length < 10 ∧ ∀ c ∈ bs, 128 ≤ c) :=
  tk_err 10 0 0 bs rfl

/-- A number that is cut goes on. -/
theorem take_cut (n k : Nat) (h : n < 18446744073709551616) (hk : k < (put n).length) : take ((put n).take k) = (0, 0, 2) := by
  have hl := put_len n
  have hall : ∀ c ∈ (put n).take k, 128 ≤ c := by
    intro c hc
    obtain ⟨j, hj, rfl⟩ := List.getElem_of_mem hc
    simp only [List.length_take] at hj
    have := put_more n j h (by omega)
    rw [List.getElem_take]
    rwa [getD_at _ _ (by omega)] at this
  have hlen : ((put n).take k).length < 10 := by simp only [List.length_take]; omega
  rcases take_err ((put n).take k) with h0 | ⟨h0, _⟩ | ⟨_, h1⟩
  · exfalso
    obtain ⟨x, j, hx⟩ : ∃ x j, take ((put n).take k) = (x, j, 0) := ⟨_, _, Prod.ext rfl (Prod.ext rfl h0)⟩
    obtain ⟨h1, h2, h3, h4⟩ := take_back _ x j (fun c hc => put_byte n h c (List.mem_of_mem_take hc)) hx
    have hp := put_len x
    have hj : (put x).length = j := by rw [← h4, List.length_take]; omega
    have hlast : (put x).getD (j - 1) 0 < 128 := putF_last 9 x h1 (j - 1) (by rw [show (putF 9 x).length = j from hj]; omega)
    have hm : (put x).getD (j - 1) 0 ∈ (put n).take k := by
      rw [← h4, getD_at _ _ (by rw [h4]; omega)]
      exact List.mem_of_mem_take (List.getElem_mem _)
    have := hall _ hm
    omega
  · exact h0
  · exact absurd ⟨hlen, hall⟩ h1

theorem put_inj (a b : Nat) (ha : a < 18446744073709551616) (hb : b < 18446744073709551616) (h : put a = put b) : a = b := by
  have h1 := take_put0 a ha
  rw [h, take_put0 b hb] at h1
  exact (congrArg Prod.fst h1).symm

/-- The reference's way: bytes are summed till one ends, and held against what the sum is put as. -/
def rt (all : List Nat) : Nat → Nat → Nat → List Nat → Nat × Nat × Nat
  | 0, _, _, _ => (0, 0, 3)
  | _ + 1, _, _, [] => (0, 0, 2)
  | f + 1, i, n, c :: r =>
    if c < 128 then (if put ((n + c * 2 ^ (7 * i)) % 18446744073709551616) = all.take (i + 1) then ((n + c * 2 ^ (7 * i)) % 18446744073709551616, i + 1, 0) else (0, 0, 3))
    else rt all f (i + 1) ((n + (c % 128) * 2 ^ (7 * i)) % 18446744073709551616) r
theorem rt_tk (all : List Nat) (hb : ∀ c ∈ all, c < 256) : ∀ (f i n : Nat) (bs : List Nat), i + f = 10 → bs = all.drop i → i ≤ all.length → n < 2 ^ (7 * i) → take all = tk f i n bs → rt all f i n bs = take all := by
  intro f
  induction f with
  | zero => intro i n bs _ _ _ _ h; rw [h]; rfl
  | succ f ih =>
    intro i n bs hi hd hil hn h
    cases bs with
    | nil => rw [h]; rfl
    | cons c r =>
      have hlt : i < all.length := by
        rcases Nat.lt_or_ge i all.length with h' | h'
        · exact h'
        · rw [List.drop_eq_nil_of_le h'] at hd; cases hd
      have hc : c = all[i] ∧ r = all.drop (i + 1) := by
        rw [List.drop_eq_getElem_cons hlt] at hd; injection hd with h1 h2; exact ⟨h1, h2⟩
      have hc256 : c < 256 := by rw [hc.1]; exact hb _ (List.getElem_mem _)
      have hp : 2 ^ (7 * i) ≤ 9223372036854775808 := by
        have := Nat.pow_le_pow_right (show 0 < 2 by omega) (show 7 * i ≤ 63 by omega)
        simpa using this
      have hpos := Nat.two_pow_pos (7 * i)
      rw [rt]
      by_cases hend : c < 128
      · rw [if_pos hend]
        by_cases hput : put ((n + c * 2 ^ (7 * i)) % 18446744073709551616) = all.take (i + 1)
        · rw [if_pos hput]
          have h1 := take_put ((n + c * 2 ^ (7 * i)) % 18446744073709551616) (all.drop (i + 1)) (Nat.mod_lt _ (by omega))
          rw [hput, List.take_append_drop, List.length_take, Nat.min_eq_left (by omega)] at h1
          exact h1.symm
        · rw [if_neg hput, h, tk]
          split
          · rfl
          · rename_i hno
            exfalso
            rw [tk, if_neg hno, if_pos hend] at h
            have hb' := take_back all _ _ hb h
            refine hput ?_
            rw [Nat.mod_eq_of_lt hb'.1]
            exact hb'.2.2.2.symm
      · rw [if_neg hend]
        by_cases hi9 : i = 9
        · have hf : f = 0 := by omega
          subst hf
          rw [rt, h, tk]
          split
          · rfl
          · rw [tk]
        · have hp2 : 128 * 2 ^ (7 * i) ≤ 9223372036854775808 := by
            have := Nat.pow_le_pow_right (show 0 < 2 by omega) (show 7 * (i + 1) ≤ 63 by omega)
            rw [pow7] at this
            simpa using this
          have hlt2 : n + c % 128 * 2 ^ (7 * i) < 128 * 2 ^ (7 * i) := by
            have h1 : c % 128 * 2 ^ (7 * i) ≤ 127 * 2 ^ (7 * i) := Nat.mul_le_mul_right _ (by omega)
            omega
          rw [Nat.mod_eq_of_lt (by omega)]
          refine ih (i + 1) _ r (by omega) hc.2 hlt (by rw [pow7]; exact hlt2) ?_
          rw [h, tk, if_neg (by omega), if_neg hend]
theorem rt_take (bs : List Nat) (hb : ∀ c ∈ bs, c < 256) : rt bs 10 0 0 bs = take bs :=
  rt_tk bs hb 10 0 0 bs rfl rfl (Nat.zero_le _) (by simp) rfl
end Go.Proofs.Ytkagonijkalicaa.Vi

/-
  Plain facts on tags: a field's number and kind as one number in groups of seven bits.
-/
namespace Go.Proofs.Ytkagonijkalicaa.Tg
open Go.Proofs.Ytkagonijkalicaa.Vi (put take put_len put_byte take_put take_put0 take_back take_cut take_err put_inj)

def okTag (num wire : Int) : Bool := decide (1 ≤ num ∧ num ≤ 1000 ∧ (wire = 0 ∨ wire = 2))
/-- What is laid down, and the error. -/
def tput (num wire : Int) : List Nat × Nat := if okTag num wire then (put (8 * num + wire).toNat, 0) else ([], 1)
/-- Number, kind, size, error. -/
structure T4 where
  num : Nat
  wire : Nat
  size : Nat
  err : Nat
def ttake (bs : List Nat) : T4 :=
  if (take bs).2.2 ≠ 0 then ⟨0, 0, 0, (take bs).2.2⟩
  else if okTag ((take bs).1 / 8 : Nat) ((take bs).1 % 8 : Nat) then ⟨(take bs).1 / 8, (take bs).1 % 8, (take bs).2.1, 0⟩
  else ⟨0, 0, 0, 6⟩
/-- How many bytes a field has, and the error. -/
def tskip (bs : List Nat) : Nat × Nat :=
  if (ttake bs).err ≠ 0 then (0, (ttake bs).err)
  else if (take (bs.drop (ttake bs).size)).2.2 ≠ 0 then (0, (take (bs.drop (ttake bs).size)).2.2)
  else if (ttake bs).wire = 0 then ((ttake bs).size + (take (bs.drop (ttake bs).size)).2.1, 0)
  else if 16384 < (take (bs.drop (ttake bs).size)).1 then (0, 4)
  else if bs.length - (ttake bs).size - (take (bs.drop (ttake bs).size)).2.1 < (take (bs.drop (ttake bs).size)).1 then (0, 2)
  else ((ttake bs).size + (take (bs.drop (ttake bs).size)).2.1 + (take (bs.drop (ttake bs).size)).1, 0)

theorem okTag_iff {num wire : Int} : okTag num wire = true ↔ 1 ≤ num ∧ num ≤ 1000 ∧ (wire = 0 ∨ wire = 2) := by simp [okTag]
theorem tput_ok {num wire : Int} (h : okTag num wire = true) : tput num wire = (put (8 * num + wire).toNat, 0) := by simp [tput, h]
theorem tput_no {num wire : Int} (h : okTag num wire = false) : tput num wire = ([], 1) := by simp [tput, h]
theorem tput_byte (num wire : Int) : ∀ c ∈ (tput num wire).1, c < 256 := by
  cases h : okTag num wire with
  | false => rw [tput_no h]; simp
  | true =>
    rw [tput_ok h]
    have := okTag_iff.1 h
    exact put_byte _ (by omega)
theorem ttake_bad {bs : List Nat} {n k e : Nat} (h : take bs = (n, k, e)) (he : e ≠ 0) : ttake bs = ⟨0, 0, 0, e⟩ := by simp [ttake, h, he]
theorem ttake_no {bs : List Nat} {n k : Nat} (h : take bs = (n, k, 0)) (ho : okTag (n / 8 : Nat) (n % 8 : Nat) = false) : ttake bs = ⟨0, 0, 0, 6⟩ := by
  unfold ttake; rw [h]; simp only [ne_eq, not_true, if_false]; rw [if_neg (by rw [ho]; decide)]
theorem ttake_ok {bs : List Nat} {n k : Nat} (h : take bs = (n, k, 0)) (ho : okTag (n / 8 : Nat) (n % 8 : Nat) = true) : ttake bs = ⟨n / 8, n % 8, k, 0⟩ := by
  unfold ttake; rw [h]; simp only [ne_eq, not_true, if_false]; rw [if_pos ho]

/-- What was put is taken. -/
theorem ttake_put (num wire : Int) (rest : List Nat) (h : okTag num wire = true) : ttake ((tput num wire).1 ++ rest) = ⟨num.toNat, wire.toNat, (tput num wire).1.length, 0⟩ := by
  have hb := okTag_iff.1 h
  rw [tput_ok h]
  have ht := take_put (8 * num + wire).toNat rest (by omega)
  have e1 : (8 * num + wire).toNat / 8 = num.toNat := by omega
  have e2 : (8 * num + wire).toNat % 8 = wire.toNat := by omega
  rw [ttake_ok ht (by rw [e1, e2]; refine okTag_iff.2 ⟨by omega, by omega, by omega⟩), e1, e2]
/-- What is taken is what it was put as. -/
theorem ttake_back {bs : List Nat} (hb : ∀ c ∈ bs, c < 256) (h : (ttake bs).err = 0) :
    okTag (ttake bs).num (ttake bs).wire = true ∧ 1 ≤ (ttake bs).size ∧ (ttake bs).size ≤ bs.length ∧ (ttake bs).size ≤ 10 ∧ bs.take (ttake bs).size = (tput (ttake bs).num (ttake bs).wire).1 := by
  obtain ⟨n, k, e, ht⟩ : ∃ n k e, take bs = (n, k, e) := ⟨_, _, _, rfl⟩
  by_cases he : e = 0
  · subst he
    cases ho : okTag (n / 8 : Nat) (n % 8 : Nat) with
    | false => rw [ttake_no ht ho] at h; cases h
    | true =>
      rw [ttake_ok ht ho] at h ⊢
      obtain ⟨h1, h2, h3, h4⟩ := take_back bs n k hb ht
      refine ⟨ho, h2, h3, ?_, ?_⟩
      · have := put_len n
        have h5 := congrArg List.length h4
        rw [List.length_take] at h5
        show k ≤ 10
        omega
      · rw [tput_ok ho, h4]
        congr 1
        show n = (8 * ((n / 8 : Nat) : Int) + ((n % 8 : Nat) : Int)).toNat
        omega
  · rw [ttake_bad ht he] at h
    exact absurd h he
theorem ttake_err {bs : List Nat} (h : (ttake bs).err ≠ 0) : (ttake bs).num = 0 ∧ (ttake bs).wire = 0 ∧ (ttake bs).size = 0 := by
  unfold ttake at h ⊢
  split
  · exact ⟨rfl, rfl, rfl⟩
  · rename_i h1
    rw [if_neg h1] at h
    split
    · rename_i h2; rw [if_pos h2] at h; exact absurd rfl h
    · exact ⟨rfl, rfl, rfl⟩
theorem ttake_le {bs : List Nat} (hb : ∀ c ∈ bs, c < 256) : (ttake bs).num ≤ 1000 ∧ (ttake bs).wire ≤ 2 ∧ (ttake bs).size ≤ 10 ∧ (ttake bs).size ≤ bs.length := by
  by_cases h : (ttake bs).err = 0
  · obtain ⟨h1, _, h3, h4, _⟩ := ttake_back hb h
    have := okTag_iff.1 h1
    omega
  · obtain ⟨h1, h2, h3⟩ := ttake_err h
    omega
/-- Sizes of tags. -/
theorem tput_len {num wire : Int} (h : okTag num wire = true) : (tput num wire).1.length = if num < 16 then 1 else 2 := by
  have hb := okTag_iff.1 h
  rw [tput_ok h]
  unfold put
  rw [Vi.putF]
  by_cases h1 : (8 * num + wire).toNat < 128
  · rw [if_pos h1, if_pos (by omega)]; rfl
  · rw [if_neg h1, if_neg (by omega), Vi.putF, if_pos (by omega)]; rfl
theorem take_le {bs : List Nat} (hb : ∀ c ∈ bs, c < 256) : (take bs).2.1 ≤ 10 ∧ (take bs).2.1 ≤ bs.length ∧ (take bs).1 < 18446744073709551616 ∧ (take bs).2.2 ≤ 3 := by
  rcases take_err bs with h | ⟨h, _⟩ | ⟨h, _⟩
  · obtain ⟨x, k, hx⟩ : ∃ x k, take bs = (x, k, 0) := ⟨_, _, Prod.ext rfl (Prod.ext rfl h)⟩
    obtain ⟨h1, h2, h3, h4⟩ := take_back bs x k hb hx
    have := put_len x
    have h5 := congrArg List.length h4
    rw [List.length_take] at h5
    rw [hx]
    show k ≤ 10 ∧ k ≤ bs.length ∧ x < _ ∧ 0 ≤ 3
    omega
  · rw [h]; simp
  · rw [h]; simp
theorem tskip_bad {bs : List Nat} {a b c e : Nat} (h : ttake bs = ⟨a, b, c, e⟩) (he : e ≠ 0) : tskip bs = (0, e) := by simp [tskip, h, he]
theorem tskip_bad2 {bs : List Nat} {a b c x k e : Nat} (h : ttake bs = ⟨a, b, c, 0⟩) (hx : take (bs.drop c) = (x, k, e)) (he : e ≠ 0) : tskip bs = (0, e) := by simp [tskip, h, hx, he]
theorem tskip_num {bs : List Nat} {a c x k : Nat} (h : ttake bs = ⟨a, 0, c, 0⟩) (hx : take (bs.drop c) = (x, k, 0)) : tskip bs = (c + k, 0) := by simp [tskip, h, hx]
theorem tskip_big {bs : List Nat} {a c x k : Nat} (h : ttake bs = ⟨a, 2, c, 0⟩) (hx : take (bs.drop c) = (x, k, 0)) (hb : 16384 < x) : tskip bs = (0, 4) := by simp [tskip, h, hx, hb]
theorem tskip_short {bs : List Nat} {a c x k : Nat} (h : ttake bs = ⟨a, 2, c, 0⟩) (hx : take (bs.drop c) = (x, k, 0)) (hb : ¬ 16384 < x) (hs : bs.length - c - k < x) : tskip bs = (0, 2) := by simp [tskip, h, hx, hb, hs]
theorem tskip_bytes {bs : List Nat} {a c x k : Nat} (h : ttake bs = ⟨a, 2, c, 0⟩) (hx : take (bs.drop c) = (x, k, 0)) (hb : ¬ 16384 < x) (hs : ¬ bs.length - c - k < x) : tskip bs = (c + k + x, 0) := by simp [tskip, h, hx, hb, hs]
end Go.Proofs.Ytkagonijkalicaa.Tg

/-
  Plain facts on whole fields that were laid down, and on cut ones.
-/
namespace Go.Proofs.Ytkagonijkalicaa.Tg
open Go.Proofs.Ytkagonijkalicaa.Vi (put take put_len put_byte take_put take_put0 take_back take_cut take_err put_inj)

theorem drop_len {α : Type} (a b : List α) {n : Nat} (h : n = a.length) : (a ++ b).drop n = b := by subst h; simp

theorem ttake_cut {num wire : Int} (h : okTag num wire = true) {j : Nat} (hj : j < (tput num wire).1.length) : ttake ((tput num wire).1.take j) = ⟨0, 0, 0, 2⟩ := by
  have hb := okTag_iff.1 h
  rw [tput_ok h] at hj ⊢
  exact ttake_bad (take_cut _ j (by omega) hj) (by decide)

theorem skip_number {num : Int} (h : okTag num 0 = true) (n : Nat) (hn : n < 18446744073709551616) (rest : List Nat) :
    tskip ((tput num 0).1 ++ put n ++ rest) = ((tput num 0).1.length + (put n).length, 0) := by
  rw [List.append_assoc]
  exact tskip_num (ttake_put num 0 (put n ++ rest) h) (by rw [drop_len _ _ rfl]; exact take_put n rest hn)
theorem skip_bytes {num : Int} (h : okTag num 2 = true) (xs rest : List Nat) (hx : xs.length ≤ 16384) :
    tskip ((tput num 2).1 ++ put xs.length ++ xs ++ rest) = ((tput num 2).1.length + (put xs.length).length + xs.length, 0) := by
  rw [List.append_assoc, List.append_assoc]
  refine tskip_bytes (ttake_put num 2 (put xs.length ++ (xs ++ rest)) h) (by rw [drop_len _ _ rfl]; exact take_put xs.length (xs ++ rest) (by omega)) (by omega) ?_
  simp only [List.length_append]
  omega
theorem skip_number_cut {num : Int} (h : okTag num 0 = true) (n : Nat) (hn : n < 18446744073709551616) {j : Nat} (hj : j < (tput num 0).1.length + (put n).length) :
    tskip (((tput num 0).1 ++ put n).take j) = (0, 2) := by
  by_cases h1 : j < (tput num 0).1.length
  · rw [List.take_append_of_le_length (Nat.le_of_lt h1)]
    exact tskip_bad (ttake_cut h h1) (by decide)
  · have h2 : ((tput num 0).1 ++ put n).take j = (tput num 0).1 ++ (put n).take (j - (tput num 0).1.length) := by
      rw [List.take_append, List.take_of_length_le (by omega)]
    rw [h2]
    exact tskip_bad2 (ttake_put num 0 _ h) (by rw [drop_len _ _ rfl]; exact take_cut n _ hn (by omega)) (by decide)
theorem skip_bytes_cut {num : Int} (h : okTag num 2 = true) (xs : List Nat) (hx : xs.length ≤ 16384) {j : Nat} (hj : j < (tput num 2).1.length + (put xs.length).length + xs.length) :
    tskip (((tput num 2).1 ++ put xs.length ++ xs).take j) = (0, 2) := by
  rw [List.append_assoc]
  by_cases h1 : j < (tput num 2).1.length
  · rw [List.take_append_of_le_length (Nat.le_of_lt h1)]
    exact tskip_bad (ttake_cut h h1) (by decide)
  · have h2 : ((tput num 2).1 ++ (put xs.length ++ xs)).take j = (tput num 2).1 ++ (put xs.length ++ xs).take (j - (tput num 2).1.length) := by
      rw [List.take_append, List.take_of_length_le (by omega)]
    rw [h2]
    by_cases h3 : j - (tput num 2).1.length < (put xs.length).length
    · rw [List.take_append_of_le_length (Nat.le_of_lt h3)]
      exact tskip_bad2 (ttake_put num 2 _ h) (by rw [drop_len _ _ rfl]; exact take_cut _ _ (by omega) h3) (by decide)
    · have h4 : (put xs.length ++ xs).take (j - (tput num 2).1.length) = put xs.length ++ xs.take (j - (tput num 2).1.length - (put xs.length).length) := by
        rw [List.take_append, List.take_of_length_le (by omega)]
      rw [h4]
      refine tskip_short (ttake_put num 2 _ h) (by rw [drop_len _ _ rfl]; exact take_put _ _ (by omega)) (by omega) ?_
      simp only [List.length_append, List.length_take]
      omega
end Go.Proofs.Ytkagonijkalicaa.Tg

/-
  Plain facts on rows of fields: what is laid down, what is taken.
-/
namespace Go.Proofs.Ytkagonijkalicaa.Tl
open Go.Proofs.Ytkagonijkalicaa.Vi (put take put_len put_byte take_put take_put0 take_back take_cut take_err put_inj)
open Go.Proofs.Ytkagonijkalicaa.Tg

/-- A field: its number, its kind, a number or bytes. -/
structure Fel where
  num : Int
  wire : Int
  n : Nat
  b : List Nat
/-- What a field of the program may hold. -/
def Fel.wf (f : Fel) : Prop := f.n < 18446744073709551616 ∧ ∀ c ∈ f.b, c < 256
def falls (a b : Fel) : Bool := decide (b.num < a.num) || decide (b.num = a.num) && (decide (a.wire ≠ 2) || decide (b.wire ≠ 2))
def one (f : Fel) : List Nat := (tput f.num f.wire).1 ++ if f.wire = 0 then put f.n else put f.b.length ++ f.b
def fit (f : Fel) : Bool := okTag f.num f.wire && !(decide (f.wire = 0) && decide (0 < f.b.length)) && !(decide (f.wire = 2) && decide (f.n ≠ 0))
def mayGo : Option Fel → List Fel → Nat
  | _, [] => 0
  | p, f :: l => if fit f = false then 1 else if p.any (falls · f) then 5 else if 16384 < f.b.length then 4 else mayGo (some f) l
def flat (l : List Fel) : List Nat := (l.map one).flatten
def may (l : List Fel) : Nat := if mayGo none l ≠ 0 then mayGo none l else if 16384 < (flat l).length then 4 else 0
def putRow (l : List Fel) : List Nat × Nat := if may l ≠ 0 then ([], may l) else (flat l, 0)
/-- The field with which bytes begin. -/
def fieldOf (bs : List Nat) : Fel :=
  if (ttake bs).wire = 0 then ⟨(ttake bs).num, 0, (take (bs.drop (ttake bs).size)).1, []⟩
  else ⟨(ttake bs).num, (ttake bs).wire, 0, (bs.take (tskip bs).1).drop ((ttake bs).size + (take (bs.drop (ttake bs).size)).2.1)⟩
def takeGo : Nat → Option Fel → List Nat → List Fel × Nat
  | 0, _, _ => ([], 0)
  | _ + 1, _, [] => ([], 0)
  | k + 1, p, c :: bs =>
    if (tskip (c :: bs)).2 ≠ 0 then ([], (tskip (c :: bs)).2)
    else if p.any (falls · (fieldOf (c :: bs))) then ([], 5)
    else if (takeGo k (some (fieldOf (c :: bs))) ((c :: bs).drop (tskip (c :: bs)).1)).2 ≠ 0 then ([], (takeGo k (some (fieldOf (c :: bs))) ((c :: bs).drop (tskip (c :: bs)).1)).2)
    else (fieldOf (c :: bs) :: (takeGo k (some (fieldOf (c :: bs))) ((c :: bs).drop (tskip (c :: bs)).1)).1, 0)
def takeRow (bs : List Nat) : List Fel × Nat := if 16384 < bs.length then ([], 4) else takeGo bs.length none bs

theorem fit_iff {f : Fel} : fit f = true ↔ okTag f.num f.wire = true ∧ (f.wire = 0 → f.b = []) ∧ (f.wire = 2 → f.n = 0) := by
  unfold fit
  simp only [Bool.and_eq_true, Bool.not_eq_true', Bool.and_eq_false_iff, decide_eq_false_iff_not, decide_eq_true_eq, Nat.not_lt, Nat.le_zero, List.length_eq_zero_iff, ne_eq, Decidable.not_not, and_assoc]
  constructor
  · rintro ⟨h1, h2, h3⟩
    exact ⟨h1, fun h => h2.elim (fun h' => absurd h h') id, fun h => h3.elim (fun h' => absurd h h') id⟩
  · rintro ⟨h1, h2, h3⟩
    exact ⟨h1, (Decidable.em (f.wire = 0)).elim (fun h => .inr (h2 h)) .inl, (Decidable.em (f.wire = 2)).elim (fun h => .inr (h3 h)) .inl⟩
theorem one_pos {f : Fel} (h : fit f = true) : 1 ≤ (one f).length := by
  have h1 := (fit_iff.1 h).1
  have h2 := tput_len h1
  unfold one
  rw [List.length_append, h2]
  split <;> omega
theorem flat_nil : flat [] = [] := rfl
theorem flat_cons (f : Fel) (l : List Fel) : flat (f :: l) = one f ++ flat l := by simp [flat]
theorem flat_app (l m : List Fel) : flat (l ++ m) = flat l ++ flat m := by simp [flat]

/-- A field that was laid down, skipped and taken. -/
theorem skip_one {f : Fel} (hf : fit f = true) (hw : f.wf) (hb : f.b.length ≤ 16384) (rest : List Nat) : tskip (one f ++ rest) = ((one f).length, 0) ∧ fieldOf (one f ++ rest) = f := by
  obtain ⟨h1, h2, h3⟩ := fit_iff.1 hf
  have hk := okTag_iff.1 h1
  obtain ⟨num, wire, n, b⟩ := f
  rcases hk.2.2 with h0 | h0
  · obtain rfl : wire = 0 := h0
    obtain rfl : b = [] := h2 rfl
    have e1 : one ⟨num, 0, n, []⟩ = (tput num 0).1 ++ put n := rfl
    have hs := skip_number h1 n hw.1 rest
    rw [e1]
    refine ⟨by rw [hs, List.length_append], ?_⟩
    have ht := ttake_put num 0 (put n ++ rest) h1
    unfold fieldOf
    rw [List.append_assoc, ht]
    simp only [Int.toNat_zero, if_true]
    rw [drop_len _ _ rfl, take_put n rest hw.1]
    simp only [Fel.mk.injEq, and_true]
    exact Int.toNat_of_nonneg (by have := hk.1; simp only at this; omega)
  · obtain rfl : wire = 2 := h0
    obtain rfl : n = 0 := h3 rfl
    have e1 : one ⟨num, 2, 0, b⟩ = (tput num 2).1 ++ put b.length ++ b := by
      show (tput num 2).1 ++ (put b.length ++ b) = _
      rw [List.append_assoc]
    have hs := skip_bytes h1 b rest hb
    rw [e1]
    refine ⟨by rw [hs]; simp [Nat.add_assoc], ?_⟩
    have ht := ttake_put num 2 (put b.length ++ (b ++ rest)) h1
    have hb' : b.length < 18446744073709551616 := by simp only at hb; omega
    unfold fieldOf
    rw [hs, List.append_assoc, List.append_assoc, ht]
    rw [if_neg (show ¬ (Int.toNat 2 = 0) by decide)]
    rw [drop_len _ _ rfl, take_put _ _ hb']
    simp only [Fel.mk.injEq, true_and]
    refine ⟨Int.toNat_of_nonneg (by have := hk.1; simp only at this; omega), rfl, ?_⟩
    have e2 : ((tput num 2).1 ++ put b.length ++ b).length = (tput num 2).1.length + (put b.length).length + b.length := by simp [Nat.add_assoc]
    have e3 : (tput num 2).1 ++ (put b.length ++ (b ++ rest)) = (tput num 2).1 ++ put b.length ++ b ++ rest := by simp
    try rw [e3]
    rw [← e2, List.take_left' rfl, drop_len _ _ (by simp)]

/-- What was laid down is taken as it was. -/
theorem takeGo_put : ∀ (l : List Fel) (p : Option Fel) (k : Nat), (∀ f ∈ l, f.wf) → mayGo p l = 0 → (flat l).length ≤ k → takeGo k p (flat l) = (l, 0)
  | [], p, k, _, _, _ => by cases k <;> rfl
  | f :: l, p, k, hw, hm, hk => by
    unfold mayGo at hm
    split at hm
    · cases hm
    rename_i hf
    split at hm
    · cases hm
    rename_i hp
    split at hm
    · cases hm
    rename_i hb
    have hf' : fit f = true := by simpa using hf
    obtain ⟨hs, hg⟩ := skip_one hf' (hw f (by simp)) (by omega) (flat l)
    have hl := one_pos hf'
    rw [flat_cons] at hk ⊢
    rw [List.length_append] at hk
    obtain ⟨k, rfl⟩ : ∃ j, k = j + 1 := ⟨k - 1, by omega⟩
    obtain ⟨c, r, hc⟩ : ∃ c r, one f ++ flat l = c :: r := by
      cases h : one f ++ flat l with
      | nil => rw [List.append_eq_nil_iff] at h; rw [h.1] at hl; simp at hl
      | cons c r => exact ⟨c, r, rfl⟩
    have ih := takeGo_put l (some f) k (fun g hg => hw g (by simp [hg])) hm (by omega)
    rw [hc] at hs hg ⊢
    unfold takeGo
    rw [hs, hg, if_neg (by simp), if_neg hp]
    rw [← hc, drop_len _ _ rfl, ih]
    simp

theorem takeRow_put {l : List Fel} (hw : ∀ f ∈ l, f.wf) (h : may l = 0) : takeRow (flat l) = (l, 0) ∧ putRow l = (flat l, 0) := by
  have hm := h
  unfold may at h
  split at h
  · rename_i h1; exact absurd h h1
  rename_i h1
  split at h
  · cases h
  rename_i h2
  refine ⟨?_, by unfold putRow; rw [if_neg (by omega)]⟩
  unfold takeRow
  rw [if_neg h2]
  exact takeGo_put l none _ hw (by omega) (Nat.le_refl _)
end Go.Proofs.Ytkagonijkalicaa.Tl

/-
  Plain facts on rows of fields: bytes that are taken are those that the row is laid down as; a row that is cut.
-/
namespace Go.Proofs.Ytkagonijkalicaa.Tl
open Go.Proofs.Ytkagonijkalicaa.Vi (put take put_len put_byte take_put take_put0 take_back take_cut take_err put_inj)
open Go.Proofs.Ytkagonijkalicaa.Tg

theorem fieldOf_back {bs : List Nat} (hb : ∀ c ∈ bs, c < 256) {s : Nat} (h : tskip bs = (s, 0)) :
    1 ≤ s ∧ s ≤ bs.length ∧ bs.take s = one (fieldOf bs) ∧ fit (fieldOf bs) = true ∧ (fieldOf bs).wf ∧ (fieldOf bs).b.length ≤ 16384 := by
  have hs : (tskip bs).1 = s := by rw [h]
  unfold tskip at h
  split at h
  · rename_i he; exact absurd (congrArg Prod.snd h) he
  rename_i he
  obtain ⟨hok, h1, hsl, h10, htk⟩ := ttake_back hb (Decidable.not_not.1 he)
  split at h
  · rename_i hx; exact absurd (congrArg Prod.snd h) hx
  rename_i hx
  obtain ⟨num, wire, size, err, hT⟩ : ∃ a b c d, ttake bs = ⟨a, b, c, d⟩ := ⟨_, _, _, _, rfl⟩
  obtain ⟨x, k, ex, hX⟩ : ∃ x k e, take (bs.drop (ttake bs).size) = (x, k, e) := ⟨_, _, _, rfl⟩
  rw [hX, hT] at h
  rw [hX] at hx
  rw [hT] at hok h1 hsl h10 htk
  simp only [] at h hx hok h1 hsl h10 htk
  rw [hT] at hX
  simp only [] at hX
  obtain rfl : ex = 0 := Decidable.not_not.1 hx
  have hbd : ∀ c ∈ bs.drop size, c < 256 := fun c hc => hb c (List.mem_of_mem_drop hc)
  obtain ⟨x1, x2, x3, x4⟩ := take_back _ x k hbd hX
  rw [List.length_drop] at x3
  by_cases hw : wire = 0
  · subst hw
    rw [if_pos rfl] at h
    obtain rfl : size + k = s := congrArg Prod.fst h
    have hf : fieldOf bs = ⟨num, 0, x, []⟩ := by
      unfold fieldOf
      rw [hT]
      simp only [if_true]
      rw [hX]
    rw [hf]
    refine ⟨by omega, by omega, ?_, fit_iff.2 ⟨hok, fun _ => rfl, fun h => by cases h⟩, ⟨x1, by simp⟩, by simp⟩
    rw [List.take_add, htk, x4]
    rfl
  · rw [if_neg hw] at h
    split at h
    · cases h
    rename_i hx4
    split at h
    · cases h
    rename_i hxl
    obtain rfl : size + k + x = s := congrArg Prod.fst h
    have hw2 : (wire : Int) = 2 := by have := (okTag_iff.1 hok).2.2; omega
    have hf : fieldOf bs = ⟨num, wire, 0, (bs.drop (size + k)).take x⟩ := by
      unfold fieldOf
      rw [hs, hT]
      rw [if_neg hw]
      simp only []
      rw [hX]
      simp only [Fel.mk.injEq, true_and]
      rw [List.drop_take]
      congr 1
      omega
    have hlen : ((bs.drop (size + k)).take x).length = x := by rw [List.length_take, List.length_drop]; omega
    rw [hf]
    refine ⟨by omega, by omega, ?_, fit_iff.2 ⟨hok, fun h => absurd h (by simp only; omega), fun _ => rfl⟩, ⟨by simp, fun c hc => hb c (List.mem_of_mem_drop (List.mem_of_mem_take hc))⟩, by simp only; omega⟩
    rw [Nat.add_assoc, List.take_add, htk, List.take_add, x4, List.drop_drop]
    unfold one
    simp only []
    rw [if_neg (show ¬ (wire : Int) = 0 by omega), hlen]

/-- Bytes that are taken as a row are those that it is laid down as. -/
theorem takeGo_back : ∀ (k : Nat) (p : Option Fel) (bs : List Nat) (l : List Fel), (∀ c ∈ bs, c < 256) → bs.length ≤ k → takeGo k p bs = (l, 0) → flat l = bs ∧ mayGo p l = 0 ∧ ∀ f ∈ l, f.wf
  | 0, p, bs, l, _, hk, h => by
    obtain rfl : bs = [] := List.eq_nil_of_length_eq_zero (by omega)
    obtain rfl : [] = l := congrArg Prod.fst h
    exact ⟨rfl, rfl, by simp⟩
  | k + 1, p, [], l, _, _, h => by
    obtain rfl : [] = l := congrArg Prod.fst h
    exact ⟨rfl, rfl, by simp⟩
  | k + 1, p, c :: bs, l, hb, hk, h => by
    unfold takeGo at h
    split at h
    · rename_i he; exact absurd (congrArg Prod.snd h) he
    rename_i he
    obtain ⟨s, hs⟩ : ∃ s, tskip (c :: bs) = (s, 0) := ⟨_, Prod.ext rfl (Decidable.not_not.1 he)⟩
    obtain ⟨h1, h2, h3, h4, h5, h6⟩ := fieldOf_back hb hs
    split at h
    · cases h
    rename_i hp
    split at h
    · rename_i hr; exact absurd (congrArg Prod.snd h) hr
    rename_i hr
    rw [hs] at h hr
    obtain ⟨r, hg⟩ : ∃ r, takeGo k (some (fieldOf (c :: bs))) ((c :: bs).drop s) = (r, 0) := ⟨_, Prod.ext rfl (Decidable.not_not.1 hr)⟩
    simp only [] at h
    rw [hg] at h
    obtain rfl : fieldOf (c :: bs) :: r = l := congrArg Prod.fst h
    obtain ⟨i1, i2, i3⟩ := takeGo_back k _ _ r (fun d hd => hb d (List.mem_of_mem_drop hd)) (by rw [List.length_drop]; simp only [List.length_cons] at hk h2 ⊢; omega) hg
    refine ⟨by rw [flat_cons, i1, ← h3, List.take_append_drop], ?_, fun f hf => ?_⟩
    · unfold mayGo
      rw [if_neg (by rw [h4]; decide), if_neg hp, if_neg (by omega)]
      exact i2
    · rcases List.mem_cons.1 hf with rfl | hf
      · exact h5
      · exact i3 f hf

theorem takeGo_no : ∀ (k : Nat) (p : Option Fel) (bs : List Nat), (takeGo k p bs).2 ≠ 0 → (takeGo k p bs).1 = []
  | 0, _, _, h => absurd rfl h
  | _ + 1, _, [], h => absurd rfl h
  | k + 1, p, c :: bs, h => by
    unfold takeGo at h ⊢
    split
    · rfl
    split
    · rfl
    split
    · rfl
    · rename_i h1 h2 h3
      rw [if_neg h1, if_neg h2, if_neg h3] at h
      exact absurd rfl h

theorem takeRow_back {bs : List Nat} {l : List Fel} (hb : ∀ c ∈ bs, c < 256) (h : takeRow bs = (l, 0)) : putRow l = (bs, 0) ∧ may l = 0 ∧ bs.length ≤ 16384 ∧ ∀ f ∈ l, f.wf := by
  unfold takeRow at h
  split at h
  · cases h
  rename_i h1
  obtain ⟨h2, h3, h4⟩ := takeGo_back _ _ _ _ hb (Nat.le_refl _) h
  have hm : may l = 0 := by unfold may; rw [h3, h2]; simp only [ne_eq, not_true, if_false]; rw [if_neg h1]
  exact ⟨by unfold putRow; rw [if_neg (by omega), h2], hm, by omega, h4⟩
end Go.Proofs.Ytkagonijkalicaa.Tl

/-
  Plain facts on rows of fields: a row that is cut; parted; joined; two fields; how many bytes.
-/
namespace Go.Proofs.Ytkagonijkalicaa.Tl
open Go.Proofs.Ytkagonijkalicaa.Vi (put take put_len put_byte take_put take_put0 take_back take_cut take_err put_inj)
open Go.Proofs.Ytkagonijkalicaa.Tg

theorem mayGo_cons {p : Option Fel} {f : Fel} {l : List Fel} : mayGo p (f :: l) = 0 ↔ fit f = true ∧ p.any (falls · f) = false ∧ f.b.length ≤ 16384 ∧ mayGo (some f) l = 0 := by
  rw [mayGo]
  constructor
  · intro h
    split at h
    · cases h
    rename_i h1
    split at h
    · cases h
    rename_i h2
    split at h
    · cases h
    rename_i h3
    exact ⟨by simpa using h1, by simpa using h2, by omega, h⟩
  · rintro ⟨h1, h2, h3, h4⟩
    rw [if_neg (by rw [h1]; decide), if_neg (by rw [h2]; decide), if_neg (by omega), h4]
theorem may_zero {l : List Fel} : may l = 0 ↔ mayGo none l = 0 ∧ (flat l).length ≤ 16384 := by
  unfold may
  constructor
  · intro h
    split at h
    · rename_i h1; exact absurd h h1
    rename_i h1
    split at h
    · cases h
    · omega
  · rintro ⟨h1, h2⟩
    rw [h1]; simp only [ne_eq, not_true, if_false]; rw [if_neg (by omega)]

/-- A field that is cut goes on. -/
theorem skip_one_cut {f : Fel} (hf : fit f = true) (hw : f.wf) (hb : f.b.length ≤ 16384) {j : Nat} (hj : j < (one f).length) : tskip ((one f).take j) = (0, 2) := by
  obtain ⟨h1, h2, h3⟩ := fit_iff.1 hf
  have hk := okTag_iff.1 h1
  obtain ⟨num, wire, n, b⟩ := f
  rcases hk.2.2 with h0 | h0
  · obtain rfl : wire = 0 := h0
    have e1 : one ⟨num, 0, n, b⟩ = (tput num 0).1 ++ put n := rfl
    rw [e1] at hj ⊢
    rw [List.length_append] at hj
    exact skip_number_cut h1 n hw.1 hj
  · obtain rfl : wire = 2 := h0
    have e1 : one ⟨num, 2, n, b⟩ = (tput num 2).1 ++ put b.length ++ b := by
      show (tput num 2).1 ++ (put b.length ++ b) = _
      rw [List.append_assoc]
    rw [e1] at hj ⊢
    rw [List.length_append, List.length_append] at hj
    exact skip_bytes_cut h1 b hb hj
theorem takeGo_step {k : Nat} {p : Option Fel} {bs : List Nat} {s : Nat} (hs : tskip bs = (s, 0)) (hne : bs ≠ []) :
    takeGo (k + 1) p bs = if p.any (falls · (fieldOf bs)) then ([], 5) else if (takeGo k (some (fieldOf bs)) (bs.drop s)).2 ≠ 0 then ([], (takeGo k (some (fieldOf bs)) (bs.drop s)).2) else (fieldOf bs :: (takeGo k (some (fieldOf bs)) (bs.drop s)).1, 0) := by
  cases bs with
  | nil => exact absurd rfl hne
  | cons c r =>
    rw [takeGo, hs, if_neg (by simp)]
theorem takeGo_bad {k : Nat} {p : Option Fel} {bs : List Nat} {s e : Nat} (hs : tskip bs = (s, e)) (he : e ≠ 0) (hne : bs ≠ []) : takeGo (k + 1) p bs = ([], e) := by
  cases bs with
  | nil => exact absurd rfl hne
  | cons c r =>
    rw [takeGo, hs, if_pos he]
theorem takeGo_cut : ∀ (l : List Fel) (p : Option Fel) (k j : Nat), (∀ f ∈ l, f.wf) → mayGo p l = 0 → j < (flat l).length → j ≤ k →
    (∃ m, m < l.length ∧ takeGo k p ((flat l).take j) = (l.take m, 0)) ∨ takeGo k p ((flat l).take j) = ([], 2)
  | [], _, _, j, _, _, hj, _ => by simp [flat] at hj
  | f :: l, p, k, 0, _, _, _, _ => .inl ⟨0, by simp, by cases k <;> rfl⟩
  | f :: l, p, 0, j + 1, _, _, _, hk => by omega
  | f :: l, p, k + 1, j + 1, hw, hm, hj, hk => by
    obtain ⟨hf, hp, hb, hm'⟩ := mayGo_cons.1 hm
    rw [flat_cons] at hj ⊢
    rw [List.length_append] at hj
    have hne : ((one f ++ flat l).take (j + 1)).length = j + 1 := by rw [List.length_take, List.length_append]; omega
    obtain ⟨c, r, hc⟩ : ∃ c r, (one f ++ flat l).take (j + 1) = c :: r := by
      cases h : (one f ++ flat l).take (j + 1) with
      | nil => rw [h] at hne; simp at hne
      | cons c r => exact ⟨c, r, rfl⟩
    by_cases h1 : j + 1 < (one f).length
    · have hs := skip_one_cut hf (hw f (by simp)) hb h1
      rw [← List.take_append_of_le_length (l₂ := flat l) (Nat.le_of_lt h1), hc] at hs
      right
      rw [hc]
      unfold takeGo
      rw [hs, if_pos (by decide)]
    · have h2 : (one f ++ flat l).take (j + 1) = one f ++ (flat l).take (j + 1 - (one f).length) := by
        rw [List.take_append, List.take_of_length_le (by omega)]
      obtain ⟨hs, hg⟩ := skip_one hf (hw f (by simp)) hb ((flat l).take (j + 1 - (one f).length))
      have hl := one_pos hf
      have ih := takeGo_cut l (some f) k (j + 1 - (one f).length) (fun g hg => hw g (by simp [hg])) hm' (by omega) (by omega)
      have hstep := takeGo_step (k := k) (p := p) hs (by intro h; rw [List.append_eq_nil_iff] at h; rw [h.1] at hl; simp at hl)
      rw [hg, if_neg (by rw [hp]; decide), drop_len _ _ rfl] at hstep
      rw [h2, hstep]
      rcases ih with ⟨m, hm1, hm2⟩ | h3
      · left
        refine ⟨m + 1, by simp; omega, ?_⟩
        rw [hm2]
        simp
      · right
        rw [h3]
        simp
theorem takeRow_cut {l : List Fel} (hw : ∀ f ∈ l, f.wf) (h : may l = 0) {j : Nat} (hj : j < (flat l).length) :
    (∃ m, m < l.length ∧ takeRow ((flat l).take j) = (l.take m, 0)) ∨ takeRow ((flat l).take j) = ([], 2) := by
  obtain ⟨h1, h2⟩ := may_zero.1 h
  have hl : ((flat l).take j).length = j := by rw [List.length_take]; omega
  unfold takeRow
  rw [if_neg (by omega)]
  exact takeGo_cut l none _ j hw h1 hj (by omega)

/-- Parted. -/
theorem mayGo_up : ∀ (l : List Fel) (f : Fel), mayGo (some f) l = 0 → ∀ g ∈ l, f.num ≤ g.num
  | [], _, _, _, hg => by cases hg
  | h :: l, f, hm, g, hg => by
    obtain ⟨_, hp, _, hm'⟩ := mayGo_cons.1 hm
    have h1 : f.num ≤ h.num := by
      simp only [Option.any_some, falls, Bool.or_eq_false_iff, decide_eq_false_iff_not] at hp
      omega
    rcases List.mem_cons.1 hg with rfl | hg
    · exact h1
    · have := mayGo_up l h hm' g hg
      omega
theorem mayGo_none {p : Option Fel} : ∀ {l : List Fel}, mayGo p l = 0 → mayGo none l = 0
  | [], _ => rfl
  | f :: l, h => by
    obtain ⟨h1, _, h3, h4⟩ := mayGo_cons.1 h
    exact mayGo_cons.2 ⟨h1, rfl, h3, h4⟩
theorem split_at (most : Int) : ∀ (l : List Fel) (p : Option Fel), mayGo p l = 0 →
    l.filter (fun f => decide (f.num ≤ most)) ++ l.filter (fun f => !decide (f.num ≤ most)) = l ∧ mayGo p (l.filter fun f => decide (f.num ≤ most)) = 0 ∧ mayGo none (l.filter fun f => !decide (f.num ≤ most)) = 0
  | [], _, _ => ⟨rfl, rfl, rfl⟩
  | f :: l, p, hm => by
    obtain ⟨h1, h2, h3, h4⟩ := mayGo_cons.1 hm
    by_cases hf : f.num ≤ most
    · obtain ⟨i1, i2, i3⟩ := split_at most l (some f) h4
      rw [List.filter_cons_of_pos (by simpa using hf), List.filter_cons_of_neg (by simpa using hf)]
      exact ⟨by rw [List.cons_append, i1], mayGo_cons.2 ⟨h1, h2, h3, i2⟩, i3⟩
    · have hu := mayGo_up l f h4
      rw [List.filter_cons_of_neg (by simpa using hf), List.filter_cons_of_pos (by simpa using hf)]
      have e1 : l.filter (fun f => decide (f.num ≤ most)) = [] := by
        rw [List.filter_eq_nil_iff]
        intro g hg
        have := hu g hg
        simp only [decide_eq_true_eq]
        omega
      have e2 : l.filter (fun f => !decide (f.num ≤ most)) = l := by
        rw [List.filter_eq_self]
        intro g hg
        have := hu g hg
        simp only [Bool.not_eq_true', decide_eq_false_iff_not]
        omega
      rw [e1, e2]
      exact ⟨rfl, rfl, mayGo_cons.2 ⟨h1, rfl, h3, h4⟩⟩
theorem split_may {l : List Fel} (most : Int) (h : may l = 0) :
    may (l.filter fun f => decide (f.num ≤ most)) = 0 ∧ may (l.filter fun f => !decide (f.num ≤ most)) = 0 ∧
      flat (l.filter fun f => decide (f.num ≤ most)) ++ flat (l.filter fun f => !decide (f.num ≤ most)) = flat l := by
  obtain ⟨h1, h2⟩ := may_zero.1 h
  obtain ⟨i1, i2, i3⟩ := split_at most l none h1
  have i4 := congrArg flat i1
  rw [flat_app] at i4
  have i5 := congrArg List.length i4
  rw [List.length_append] at i5
  exact ⟨may_zero.2 ⟨i2, by omega⟩, may_zero.2 ⟨i3, by omega⟩, i4⟩

/-- Joined. -/
theorem mayGo_join (m : Int) : ∀ (a l : List Fel) (p : Option Fel), mayGo p a = 0 → (∀ f ∈ a, f.num ≤ m) → (∀ f, p = some f → f.num ≤ m) → mayGo none l = 0 → (∀ f ∈ l, m < f.num) → mayGo p (a ++ l) = 0
  | [], [], _, _, _, _, _, _ => rfl
  | [], f :: l, p, _, _, hp, hl, hm => by
    obtain ⟨h1, _, h3, h4⟩ := mayGo_cons.1 hl
    refine mayGo_cons.2 ⟨h1, ?_, h3, h4⟩
    cases p with
    | none => rfl
    | some g =>
      have h5 := hp g rfl
      have h6 := hm f (by simp)
      simp only [Option.any_some, falls, Bool.or_eq_false_iff, Bool.and_eq_false_iff, decide_eq_false_iff_not]
      exact ⟨by omega, .inl (by omega)⟩
  | f :: a, l, p, ha, hA, _, hl, hm => by
    obtain ⟨h1, h2, h3, h4⟩ := mayGo_cons.1 ha
    exact mayGo_cons.2 ⟨h1, h2, h3, mayGo_join m a l (some f) h4 (fun g hg => hA g (by simp [hg])) (fun g hg => by cases hg; exact hA f (by simp)) hl hm⟩
theorem may_join {a l : List Fel} (m : Int) (ha : may a = 0) (hA : ∀ f ∈ a, f.num ≤ m) (hl : may l = 0) (hL : ∀ f ∈ l, m < f.num) (hs : (flat a).length + (flat l).length ≤ 16384) : may (a ++ l) = 0 ∧ flat (a ++ l) = flat a ++ flat l :=
  ⟨may_zero.2 ⟨mayGo_join m a l none (may_zero.1 ha).1 hA (fun _ h => by cases h) (may_zero.1 hl).1 hL, by rw [flat_app, List.length_append]; exact hs⟩, flat_app a l⟩
end Go.Proofs.Ytkagonijkalicaa.Tl

/-
  Plain facts on rows of fields: how many bytes; one field and two.
-/
namespace Go.Proofs.Ytkagonijkalicaa.Tl
open Go.Proofs.Ytkagonijkalicaa.Vi (put take put_len put_byte take_put take_put0 take_back take_cut take_err put_inj)
open Go.Proofs.Ytkagonijkalicaa.Tg

/-- The bytes of a field, counted. -/
def size1 (f : Fel) : Nat := (if 16 ≤ f.num then 1 else 0) + if f.wire = 0 then 1 + (put f.n).length else 1 + (put f.b.length).length + f.b.length
def size (l : List Fel) : Nat := (l.map size1).sum

theorem one_size {f : Fel} (h : fit f = true) : (one f).length = size1 f := by
  have h1 := (fit_iff.1 h).1
  have h2 := tput_len h1
  unfold one size1
  rw [List.length_append, h2]
  by_cases hw : f.wire = 0
  · rw [if_pos hw, if_pos hw]
    split <;> split <;> omega
  · rw [if_neg hw, if_neg hw, List.length_append]
    split <;> split <;> omega
theorem mayGo_fit : ∀ {l : List Fel} {p : Option Fel}, mayGo p l = 0 → ∀ f ∈ l, fit f = true ∧ f.b.length ≤ 16384
  | [], _, _, _, hf => by cases hf
  | g :: l, p, h, f, hf => by
    obtain ⟨h1, _, h3, h4⟩ := mayGo_cons.1 h
    rcases List.mem_cons.1 hf with rfl | hf
    · exact ⟨h1, h3⟩
    · exact mayGo_fit h4 f hf
theorem flat_size : ∀ (l : List Fel), (∀ f ∈ l, fit f = true) → (flat l).length = size l
  | [], _ => rfl
  | f :: l, h => by
    rw [flat_cons, List.length_append, one_size (h f (by simp)), flat_size l (fun g hg => h g (by simp [hg]))]
    simp [size]
theorem mayGo_err : ∀ (l : List Fel) (p : Option Fel), mayGo p l = 0 ∨ mayGo p l = 1 ∨ mayGo p l = 5 ∨ mayGo p l = 4
  | [], _ => .inl rfl
  | f :: l, p => by
    unfold mayGo
    split
    · simp
    split
    · simp
    split
    · simp
    · exact mayGo_err l (some f)
theorem may_err (l : List Fel) : may l = 0 ∨ may l = 1 ∨ may l = 5 ∨ may l = 4 := by
  unfold may
  split
  · exact mayGo_err l none
  · split <;> simp
theorem may_long {l : List Fel} (h : may l = 0) : (flat l).length = size l ∧ size l ≤ 16384 := by
  obtain ⟨h1, h2⟩ := may_zero.1 h
  have h3 := flat_size l (fun f hf => (mayGo_fit h1 f hf).1)
  omega
theorem may_big {l : List Fel} (h : may l = 4) : 16384 < size l ∨ 1 < l.length := by
  by_cases hl : 1 < l.length
  · exact .inr hl
  left
  match l, hl with
  | [], _ => simp [may, mayGo, flat] at h
  | [f], _ =>
    by_cases hf : fit f = true
    · have h3 := flat_size [f] (by simp [hf])
      unfold may at h
      split at h
      · rename_i h1
        unfold mayGo at h
        rw [if_neg (by rw [hf]; decide), if_neg (by simp)] at h
        split at h
        · rename_i h2
          have hw : f.wire ≠ 0 := by
            intro h0
            have := (fit_iff.1 hf).2.1 h0
            rw [this] at h2
            simp at h2
          simp only [size, size1, List.map_cons, List.map_nil, List.sum_cons, List.sum_nil]
          rw [if_neg hw]
          omega
        · simp [mayGo] at h
      · split at h
        · omega
        · cases h
    · have : mayGo none [f] = 1 := by unfold mayGo; rw [if_pos (by simpa using hf)]
      unfold may at h
      rw [this] at h
      simp at h
  | _ :: _ :: _, hl => simp at hl

theorem size1_le {f : Fel} (hb : f.b.length ≤ 300) : size1 f ≤ 312 := by
  have h1 := put_len f.n
  have h2 := put_len f.b.length
  unfold size1
  split <;> split <;> omega
theorem may_one {x : Fel} (hb : x.b.length ≤ 300) : may [x] = if fit x then 0 else 1 := by
  by_cases hf : fit x = true
  · rw [if_pos hf]
    refine may_zero.2 ⟨mayGo_cons.2 ⟨hf, rfl, by omega, rfl⟩, ?_⟩
    rw [flat_size [x] (by simp [hf])]
    have := size1_le hb
    simp [size]; omega
  · rw [if_neg hf]
    have : mayGo none [x] = 1 := by unfold mayGo; rw [if_pos (by simpa using hf)]
    unfold may
    rw [this]
    simp
theorem may_two {x y : Fel} (hx : x.b.length ≤ 300) (hy : y.b.length ≤ 300) : may [x, y] = if fit x && fit y then (if falls x y then 5 else 0) else 1 := by
  by_cases hf : fit x = true
  · by_cases hg : fit y = true
    · rw [if_pos (by rw [hf, hg]; rfl)]
      by_cases hr : falls x y = true
      · rw [if_pos hr]
        have : mayGo none [x, y] = 5 := by
          rw [mayGo, if_neg (by rw [hf]; decide), if_neg (by simp), if_neg (by omega), mayGo, if_neg (by rw [hg]; decide), if_pos (by simpa using hr)]
        unfold may
        rw [this]
        simp
      · rw [if_neg hr]
        refine may_zero.2 ⟨mayGo_cons.2 ⟨hf, rfl, by omega, mayGo_cons.2 ⟨hg, by simpa using hr, by omega, rfl⟩⟩, ?_⟩
        rw [flat_size [x, y] (by simp [hf, hg])]
        have := size1_le hx
        have := size1_le hy
        simp [size]; omega
    · have hg' : fit y = false := by simpa using hg
      rw [if_neg (by rw [hg']; simp)]
      have : mayGo none [x, y] = 1 := by
        rw [mayGo, if_neg (by rw [hf]; decide), if_neg (by simp), if_neg (by omega), mayGo, if_pos hg']
      unfold may
      rw [this]
      simp
  · have hf' : fit x = false := by simpa using hf
    rw [if_neg (by rw [hf']; simp)]
    have : mayGo none [x, y] = 1 := by rw [mayGo, if_pos hf']
    unfold may
    rw [this]
    simp
end Go.Proofs.Ytkagonijkalicaa.Tl

/-
  Plain facts on records' fields, by versions.
-/
namespace Go.Proofs.Ytkagonijkalicaa.Fo
open Go.Proofs.Ytkagonijkalicaa.Tl (Fel may)

structure Spc where
  num : Int
  wire : Int
  since : Int
  need : Bool
  many : Bool
deriving DecidableEq
def numS (n s : Int) (nd : Bool) : Spc := ⟨n, 0, s, nd, false⟩
def bytS (n s : Int) (nd m : Bool) : Spc := ⟨n, 2, s, nd, m⟩
def specAll (k : Int) : List Spc :=
  if k = 1 then [numS 1 1 true, numS 2 1 false, numS 3 1 false, numS 4 1 false, numS 5 1 false, numS 6 1 false, bytS 7 1 false false, bytS 8 3 false false]
  else if k = 2 then [numS 1 1 true, numS 2 1 true, bytS 3 1 true false, numS 4 2 false, bytS 5 3 false false]
  else if k = 3 then [numS 1 1 true, numS 2 1 true]
  else if k = 4 then [numS 1 1 true, numS 2 1 false, numS 3 1 false, numS 4 1 false]
  else if k = 5 then [numS 1 1 true, numS 2 1 true, numS 3 1 false, bytS 4 1 false true, bytS 5 1 false true, bytS 6 1 false true, numS 7 3 false]
  else if k = 6 then [numS 1 1 true, numS 2 1 true, numS 3 1 true, numS 4 1 true, numS 5 1 false, numS 6 1 false, numS 7 1 false, numS 8 1 false, numS 9 1 false, bytS 10 1 false true]
  else if k = 7 then [numS 1 1 true, bytS 2 1 false false]
  else []
def inv (v : Int) (s : Spc) : Bool := decide (1 ≤ v) && decide (v ≤ 3) && decide (s.since ≤ v)
def specs (k v : Int) : List Spc := (specAll k).filter (inv v)
def top (k v : Int) : Int := (specs k v).foldl (fun t s => max t s.num) 0

def okField (s : Spc) (f : Fel) : Bool := decide (f.num ≠ s.num) || (decide (f.wire = s.wire) && !(decide (f.wire = 0) && decide (f.n = 0)) && !(decide (f.wire = 2) && decide (f.b.length = 0)))
def cnt (s : Spc) (l : List Fel) : Nat := (l.filter fun f => decide (f.num = s.num)).length
def okSpec (s : Spc) (l : List Fel) : Bool := l.all (okField s) && !(decide (1 < cnt s l) && !s.many) && !(decide (cnt s l = 0) && s.need)
def check (k v : Int) (l : List Fel) : Nat := if specs k v = [] then 1 else if may l ≠ 0 then may l else if (specs k v).all (okSpec · l) then 0 else 6

theorem specAll_len (k : Int) : (specAll k).length ≤ 10 := by
  unfold specAll
  repeat' split
  all_goals simp
theorem specs_len (k v : Int) : (specs k v).length ≤ 10 := Nat.le_trans (List.length_filter_le _ _) (specAll_len k)
theorem specAll_mem (k : Int) : ∀ s ∈ specAll k, 1 ≤ s.num ∧ s.num ≤ 10 ∧ (s.wire = 0 ∨ s.wire = 2) ∧ 1 ≤ s.since ∧ s.since ≤ 3 := by
  intro s hs
  unfold specAll at hs
  repeat' split at hs
  all_goals (simp [numS, bytS] at hs)
  all_goals (first | (rcases hs with rfl | rfl | rfl | rfl | rfl | rfl | rfl | rfl | rfl | rfl <;> simp) | (rcases hs with rfl | rfl | rfl | rfl | rfl | rfl | rfl | rfl <;> simp) | (rcases hs with rfl | rfl | rfl | rfl | rfl | rfl | rfl <;> simp) | (rcases hs with rfl | rfl | rfl | rfl | rfl <;> simp) | (rcases hs with rfl | rfl | rfl | rfl <;> simp) | (rcases hs with rfl | rfl <;> simp) | exact hs.elim)
theorem specs_mem {k v : Int} {s : Spc} (h : s ∈ specs k v) : (1 ≤ s.num ∧ s.num ≤ 10 ∧ (s.wire = 0 ∨ s.wire = 2) ∧ 1 ≤ s.since ∧ s.since ≤ 3) := specAll_mem k s (List.mem_filter.1 h).1
end Go.Proofs.Ytkagonijkalicaa.Fo

/-
  Plain facts on a row of chunks: 1 to 64, rising, one to eight of them.
-/
namespace Go.Proofs.Ytkagonijkalicaa.Cm

def inR (x a b : Int) : Bool := decide (a ≤ x) && decide (x ≤ b)
theorem inR_iff {x a b : Int} : inR x a b = true ↔ a ≤ x ∧ x ≤ b := by simp [inR]
/-- The number ahead of the j-th. -/
def aheadI (l : List Int) (j : Nat) : Option Int := if j = 0 then none else l[j - 1]?
def bad (p : Option Int) (x : Int) : Bool := !inR x 1 64 || p.any (fun y => decide (x ≤ y))
def rowGo : Option Int → List Int → Bool
  | _, [] => true
  | p, x :: l => if bad p x then false else rowGo (some x) l
def row (l : List Int) : Bool := rowGo none l && (decide (1 ≤ l.length) && decide (l.length ≤ 8))
theorem rowGo_step {l : List Int} {j : Nat} {x : Int} (h : l[j]? = some x) (p : Option Int) : rowGo p (l.drop j) = if bad p x then false else rowGo (some x) (l.drop (j + 1)) := by
  have hlt := (List.getElem?_eq_some_iff.1 h).1
  rw [List.drop_eq_getElem_cons hlt]
  have e : l[j] = x := by rw [List.getElem?_eq_getElem hlt] at h; exact Option.some.inj h
  rw [e, rowGo]
theorem rowGo_mem : ∀ {l : List Int} {p : Option Int}, rowGo p l = true → ∀ x ∈ l, 1 ≤ x ∧ x ≤ 64
  | [], _, _, x, hx => by simp at hx
  | y :: l, p, h, x, hx => by
    unfold rowGo at h
    split at h
    · cases h
    rename_i hb
    rcases List.mem_cons.1 hx with rfl | hx
    · have : inR x 1 64 = true := by
        cases hi : inR x 1 64 with
        | true => rfl
        | false => exfalso; apply hb; unfold bad; rw [hi]; rfl
      exact inR_iff.1 this
    · exact rowGo_mem h x hx
theorem row_mem {l : List Int} (h : row l = true) : (∀ x ∈ l, 1 ≤ x ∧ x ≤ 64) ∧ 1 ≤ l.length ∧ l.length ≤ 8 := by
  unfold row at h
  simp only [Bool.and_eq_true, decide_eq_true_eq] at h
  exact ⟨rowGo_mem h.1, h.2⟩
theorem row_nil : row [] = false := rfl
end Go.Proofs.Ytkagonijkalicaa.Cm

/-
  Plain facts on commands: what they need, which may be.
-/
namespace Go.Proofs.Ytkagonijkalicaa.Cm

structure Cmd where
  kind : Int
  client : Int
  seq : Int
  set : Int
  id : Int
  n : Int
  chunks : List Int
  text : List Nat
deriving DecidableEq
def noCmd : Cmd := ⟨0, 0, 0, 0, 0, 0, [], []⟩

def need (k : Int) : Int := if inR k 1 8 then 1 else if inR k 9 10 then 2 else if inR k 11 12 then 3 else 0
theorem need_bound (k : Int) : 0 ≤ need k ∧ need k ≤ 3 := by unfold need; repeat' split <;> omega
def needs (x : Int) (u : Bool) (a b : Int) : Bool := if u then inR x a b else decide (x = 0)

/-- What a command of a kind needs. -/
def mayNum (c : Cmd) : Bool :=
  needs c.client (decide (c.kind ≠ 8)) 1 8 && (needs c.seq (decide (c.kind ≠ 8) && decide (c.kind ≠ 1)) 1 1048576 && (needs c.set (inR c.kind 2 4) 1 8 &&
  (needs c.id (decide (c.kind = 5) || (decide (c.kind = 7) || inR c.kind 9 11)) 1 1048576 &&
  needs c.n (decide (c.kind = 6) || (decide (c.kind = 8) || decide (c.kind = 12))) (if c.kind = 8 then 2 else 0) (if c.kind = 8 then 3 else if c.kind = 12 then 64 else 8))))
def mayChunks (c : Cmd) : Bool := if c.kind = 3 then row c.chunks else decide (c.chunks.length = 0)
def mayText (c : Cmd) : Bool := decide (c.text.length = 0) || (decide (c.kind = 11) && decide (c.text.length ≤ 16))
def mayC (c : Cmd) (v : Int) : Nat :=
  if inR v 1 3 = false ∨ need c.kind = 0 then 1 else if v < need c.kind then 10 else if mayNum c && (mayChunks c && mayText c) then 0 else 1
end Go.Proofs.Ytkagonijkalicaa.Cm

/-
  Plain facts on commands: how they are laid down, what is taken.
-/
namespace Go.Proofs.Ytkagonijkalicaa.Cm
open Go.Proofs.Ytkagonijkalicaa.Tl (Fel may putRow takeRow)
open Go.Proofs.Ytkagonijkalicaa.Fo (top check)

def chunksB (l : List Int) : List Nat × Nat := if row l then (l.map Int.toNat, 0) else ([], 1)
def unchunk (b : List Nat) : List Int × Nat := if row (b.map fun c : Nat => (c : Int)) then (b.map fun c : Nat => (c : Int), 0) else ([], 6)

def forNum (c : Cmd) : Bool := inR c.client 0 1048576 && (inR c.seq 0 1048576 && (inR c.set 0 1048576 && (inR c.id 0 1048576 && inR c.n 0 1048576)))
def forChunks (c : Cmd) : Bool := decide (c.chunks.length = 0) || row c.chunks
def forText (c : Cmd) (v : Int) : Bool := decide (c.text.length = 0) || (decide (3 ≤ v) && decide (c.text.length ≤ 16))
def foreignC (c : Cmd) (v : Int) : Bool := inR c.kind 1 99 && ((decide (need c.kind = 0) || decide (v < need c.kind)) && (forNum c && (forChunks c && forText c v)))

def numF (i : Int) (x : Int) : List Fel := if x = 0 then [] else [⟨i, 0, x.toNat, []⟩]
def numsF (c : Cmd) : List Fel := numF 1 c.kind ++ (numF 2 c.client ++ (numF 3 c.seq ++ (numF 4 c.set ++ (numF 5 c.id ++ numF 6 c.n))))
def chunkF (c : Cmd) : List Fel := if c.chunks = [] then [] else [⟨7, 2, 0, (chunksB c.chunks).1⟩]
def textF (c : Cmd) (v : Int) : List Fel := if c.text ≠ [] ∧ 3 ≤ v then [⟨8, 2, 0, c.text⟩] else []
def fieldsC (c : Cmd) (v : Int) : List Fel := numsF c ++ (chunkF c ++ textF c v)
def putC (c : Cmd) (rest : List Fel) (v : Int) : List Nat × Nat :=
  if inR v 1 3 = false then ([], 1) else if foreignC c v = false ∧ mayC c v ≠ 0 then ([], mayC c v) else if rest.any (fun f => decide (f.num ≤ top 1 v)) then ([], 6) else putRow (fieldsC c v ++ rest)
def project (c : Cmd) (v : Int) : Cmd := if v < 3 then { c with text := [] } else c

/-- A field's number, cut. -/
def cutN (x : Nat) : Int := ((min x 1048577 : Nat) : Int)
def stepC (c : Cmd) (f : Fel) : Cmd :=
  if f.num = 1 then { c with kind := cutN f.n } else if f.num = 2 then { c with client := cutN f.n } else if f.num = 3 then { c with seq := cutN f.n } else if f.num = 4 then { c with set := cutN f.n }
  else if f.num = 5 then { c with id := cutN f.n } else if f.num = 6 then { c with n := cutN f.n } else if f.num = 7 then { c with chunks := (unchunk f.b).1 } else if f.num = 8 then { c with text := f.b } else c
def cmdOf (l : List Fel) : Cmd := l.foldl stepC noCmd
def known (v : Int) (l : List Fel) : List Fel := l.filter fun f => decide (f.num ≤ top 1 v)
def restOf (v : Int) (l : List Fel) : List Fel := l.filter fun f => !decide (f.num ≤ top 1 v)
def takeC (b : List Nat) (v : Int) : Cmd × List Fel × Nat :=
  if inR v 1 3 = false then (noCmd, [], 1)
  else if (takeRow b).2 ≠ 0 then (noCmd, [], (takeRow b).2)
  else if check 1 v (takeRow b).1 ≠ 0 then (noCmd, [], check 1 v (takeRow b).1)
  else if putC (cmdOf (known v (takeRow b).1)) (restOf v (takeRow b).1) v = (b, 0) then (cmdOf (known v (takeRow b).1), restOf v (takeRow b).1, 0) else (noCmd, [], 6)
end Go.Proofs.Ytkagonijkalicaa.Cm

/-
  Plain facts on the landed command: its rules, what fits them, and that this is what may be.
-/
namespace Go.Proofs.Ytkagonijkalicaa.Cm
open Go.Proofs.Ytkagonijkalicaa.Tl (Fel may putRow takeRow)
open Go.Proofs.Ytkagonijkalicaa.Fo (top check)

/-- Rising, from a number ahead on. -/
def riseGo : Int → List Int → Bool
  | _, [] => true
  | p, x :: l => (decide (p < x) && decide (x ≤ 64)) && riseGo x l
theorem riseGo_step {l : List Int} {j : Nat} {x : Int} (h : l[j]? = some x) (p : Int) : riseGo p (l.drop j) = ((decide (p < x) && decide (x ≤ 64)) && riseGo x (l.drop (j + 1))) := by
  have hlt := (List.getElem?_eq_some_iff.1 h).1
  rw [List.drop_eq_getElem_cons hlt]
  have e : l[j] = x := by rw [List.getElem?_eq_getElem hlt] at h; exact Option.some.inj h
  rw [e, riseGo]
theorem rise_some : ∀ {l : List Int} {p : Int}, 0 ≤ p → rowGo (some p) l = riseGo p l
  | [], _, _ => rfl
  | x :: l, p, hp => by
    rw [rowGo, riseGo]
    by_cases h : p < x ∧ x ≤ 64
    · rw [if_neg (by unfold bad inR; simp; omega), decide_eq_true h.1, decide_eq_true h.2, rise_some (by omega)]; rfl
    · rw [if_pos (by unfold bad inR; simp; omega), show (decide (p < x) && decide (x ≤ 64)) = false by simp; omega]; rfl
theorem rise_none (l : List Int) : rowGo none l = riseGo 0 l := by
  cases l with
  | nil => rfl
  | cons x l =>
    rw [rowGo, riseGo]
    by_cases h : 0 < x ∧ x ≤ 64
    · rw [if_neg (by unfold bad inR; simp; omega), decide_eq_true h.1, decide_eq_true h.2, rise_some (by omega)]; rfl
    · rw [if_pos (by unfold bad inR; simp; omega), show (decide (0 < x) && decide (x ≤ 64)) = false by simp; omega]; rfl
theorem row_rise (l : List Int) : row l = (inR (l.length : Int) 1 8 && riseGo 0 l) := by
  unfold row inR
  rw [rise_none, Bool.and_comm]
  congr 1
  rw [Bool.eq_iff_iff]; simp; omega

structure Span where
  a : Int
  b : Int
structure Rule where
  need : Int
  client : Span
  seq : Span
  set : Span
  id : Span
  n : Span
  chunks : Span
  text : Span
def Span.holds (s : Span) (x : Int) : Bool := inR x s.a s.b
def Rule.fits (r : Rule) (c : Cmd) : Bool :=
  r.client.holds c.client && (r.seq.holds c.seq && (r.set.holds c.set && (r.id.holds c.id && (r.n.holds c.n && (r.chunks.holds (c.chunks.length : Nat) && (riseGo 0 c.chunks && r.text.holds (c.text.length : Nat)))))))
def s0 : Span := ⟨0, 0⟩
def sC : Span := ⟨1, 8⟩
def sM : Span := ⟨1, 1048576⟩
def rule? (k : Int) : Option Rule :=
  if k = 12 then some ⟨3, sC, sM, s0, s0, ⟨0, 64⟩, s0, s0⟩
  else if k = 11 then some ⟨3, sC, sM, s0, sM, s0, s0, ⟨0, 16⟩⟩
  else if k = 10 then some ⟨2, sC, sM, s0, sM, s0, s0, s0⟩
  else if k = 9 then some ⟨2, sC, sM, s0, sM, s0, s0, s0⟩
  else if k = 8 then some ⟨1, s0, s0, s0, s0, ⟨2, 3⟩, s0, s0⟩
  else if k = 7 then some ⟨1, sC, sM, s0, sM, s0, s0, s0⟩
  else if k = 6 then some ⟨1, sC, sM, s0, s0, ⟨0, 8⟩, s0, s0⟩
  else if k = 5 then some ⟨1, sC, sM, s0, sM, s0, s0, s0⟩
  else if k = 4 then some ⟨1, sC, sM, sC, s0, s0, s0, s0⟩
  else if k = 3 then some ⟨1, sC, sM, sC, s0, s0, ⟨1, 8⟩, s0⟩
  else if k = 2 then some ⟨1, sC, sM, sC, s0, s0, s0, s0⟩
  else if k = 1 then some ⟨1, sC, s0, s0, s0, s0, s0, s0⟩
  else none
def noRule : Rule := ⟨0, s0, s0, s0, s0, s0, s0, s0⟩
theorem rule_cases (k : Int) : (∃ j : Nat, k = (j : Int) ∧ (j = 1 ∨ j = 2 ∨ j = 3 ∨ j = 4 ∨ j = 5 ∨ j = 6 ∨ j = 7 ∨ j = 8 ∨ j = 9 ∨ j = 10 ∨ j = 11 ∨ j = 12)) ∨ (rule? k = none ∧ need k = 0) := by
  by_cases h : 1 ≤ k ∧ k ≤ 12
  · exact .inl ⟨k.toNat, by omega, by omega⟩
  · right
    constructor
    · unfold rule?
      repeat rw [if_neg (by omega)]
    · unfold need
      repeat rw [if_neg (by rw [inR_iff]; omega)]
theorem rule_need (k : Int) : ((rule? k).getD noRule).need = need k := by
  rcases rule_cases k with ⟨j, rfl, h⟩ | ⟨h1, h2⟩
  · rcases h with rfl | rfl | rfl | rfl | rfl | rfl | rfl | rfl | rfl | rfl | rfl | rfl <;> rfl
  · rw [h1, h2]; rfl
theorem rule_known (k : Int) : (rule? k).isSome = !decide (need k = 0) := by
  rcases rule_cases k with ⟨j, rfl, h⟩ | ⟨h1, h2⟩
  · rcases h with rfl | rfl | rfl | rfl | rfl | rfl | rfl | rfl | rfl | rfl | rfl | rfl <;> rfl
  · rw [h1, h2]; rfl

theorem in_zero (x : Int) : inR x 0 0 = decide (x = 0) := by unfold inR; rw [Bool.eq_iff_iff]; simp; omega
theorem ch_zero (l : List Int) (b : Bool) : (inR (l.length : Nat) 0 0 && (riseGo 0 l && b)) = (decide (l.length = 0) && b) := by
  cases l with
  | nil => simp [inR, riseGo]
  | cons x l =>
    rw [in_zero]
    have h : decide ((((x :: l).length : Nat) : Int) = 0) = false := by simp; omega
    rw [h]; simp
theorem ch_row (l : List Int) (b : Bool) : (inR (l.length : Nat) 1 8 && (riseGo 0 l && b)) = (row l && b) := by rw [row_rise, Bool.and_assoc]
theorem ch_for (l : List Int) (b : Bool) : (inR (l.length : Nat) 0 8 && (riseGo 0 l && b)) = ((decide (l.length = 0) || row l) && b) := by
  cases l with
  | nil => simp [inR, riseGo]
  | cons x l =>
    rw [row_rise]
    have h : decide ((x :: l).length = 0) = false := by simp
    have h2 : inR (((x :: l).length : Nat) : Int) 1 8 = inR (((x :: l).length : Nat) : Int) 0 8 := by unfold inR; rw [Bool.eq_iff_iff]; simp; omega
    rw [h, h2]
    simp [Bool.and_assoc]
theorem ch_nil (l : List Int) (b : Bool) : (decide (l = []) && (riseGo 0 l && b)) = (decide (l = []) && b) := by
  cases l with
  | nil => rfl
  | cons x l => simp
theorem tx_zero (n : Nat) : inR (n : Int) 0 0 = decide (n = 0) := by rw [in_zero, Bool.eq_iff_iff]; simp
theorem tx_16 (n : Nat) : inR (n : Int) 0 16 = (decide (n = 0) || decide (n ≤ 16)) := by unfold inR; rw [Bool.eq_iff_iff]; simp; omega

set_option maxHeartbeats 2000000 in
theorem rule_fits {c : Cmd} {r : Rule} (h : rule? c.kind = some r) : r.fits c = (mayNum c && (mayChunks c && mayText c)) := by
  obtain ⟨kind, cl, sq, st, i, n, ch, tx⟩ := c
  simp only [] at h
  have hq : mayNum ⟨kind, cl, sq, st, i, n, ch, tx⟩ = (needs cl (decide (kind ≠ 8)) 1 8 && (needs sq (decide (kind ≠ 8) && decide (kind ≠ 1)) 1 1048576 && (needs st (inR kind 2 4) 1 8 &&
    (needs i (decide (kind = 5) || (decide (kind = 7) || inR kind 9 11)) 1 1048576 &&
    needs n (decide (kind = 6) || (decide (kind = 8) || decide (kind = 12))) (if kind = 8 then 2 else 0) (if kind = 8 then 3 else if kind = 12 then 64 else 8))))) := rfl
  rw [hq]
  clear hq
  unfold Rule.fits Span.holds mayChunks mayText
  rcases rule_cases kind with ⟨j, rfl, hj⟩ | ⟨h1, _⟩
  · rcases hj with rfl | rfl | rfl | rfl | rfl | rfl | rfl | rfl | rfl | rfl | rfl | rfl <;>
      (obtain rfl : _ = r := Option.some.inj h
       clear h
       simp only [s0, sC, sM, ch_zero, ch_row, in_zero, tx_zero, tx_16, Bool.and_assoc]
       simp [needs, inR, ch_nil])
  · rw [h1] at h; cases h

/-- The rule of a foreign command. -/
def forRule (v : Int) : Rule := ⟨0, ⟨0, 1048576⟩, ⟨0, 1048576⟩, ⟨0, 1048576⟩, ⟨0, 1048576⟩, ⟨0, 1048576⟩, ⟨0, 8⟩, if 3 ≤ v then ⟨0, 16⟩ else s0⟩
theorem foreign_rule (c : Cmd) (v : Int) : foreignC c v = if need c.kind ≠ 0 ∧ need c.kind ≤ v then false else inR c.kind 1 99 && (forRule v).fits c := by
  unfold foreignC
  split
  · rename_i h
    rw [show (decide (need c.kind = 0) || decide (v < need c.kind)) = false by simp; omega]
    simp
  · rename_i h
    rw [show (decide (need c.kind = 0) || decide (v < need c.kind)) = true by simp; omega]
    unfold Rule.fits Span.holds forRule forNum forChunks forText
    simp only [ch_for, Bool.and_assoc, Bool.true_and]
    by_cases h3 : 3 ≤ v
    · rw [if_pos h3, tx_16, decide_eq_true h3]; rfl
    · rw [if_neg h3, decide_eq_false h3]
      simp only [s0, tx_zero, Bool.false_and, Bool.or_false]
theorem may_rule (c : Cmd) (v : Int) : mayC c v = if inR v 1 3 = false ∨ rule? c.kind = none then 1 else if v < need c.kind then 10 else if ((rule? c.kind).getD noRule).fits c then 0 else 1 := by
  unfold mayC
  have hk := rule_known c.kind
  cases hr : rule? c.kind with
  | none =>
    rw [hr] at hk
    have : need c.kind = 0 := by simpa using hk.symm
    rw [if_pos (.inr this), if_pos (.inr rfl)]
  | some r =>
    rw [hr] at hk
    have h0 : need c.kind ≠ 0 := by simpa using hk.symm
    rw [← rule_fits hr]
    cases hv : inR v 1 3 with
    | false => rw [if_pos (.inl rfl), if_pos (.inl rfl)]
    | true =>
      simp only [Bool.true_eq_false, false_or, if_neg h0, reduceCtorEq, if_false]
      rfl
end Go.Proofs.Ytkagonijkalicaa.Cm
