/-
  Plain facts on numbers in groups of seven bits: no program, no walk.
-/
namespace Go.Proofs.Ytdkjdiamekfbdaa.Vi

theorem getD_at (l : List Nat) (d : Nat) {k : Nat} (h : k < l.length) : l.getD k d = l[k] := by simp [List.getD, h]

/-- n in groups of seven bits, the lowest first; 'f' groups more at most. -/
def putF : Nat → Nat → List Nat
  | 0, n => [n]
  | f + 1, n => if n < 128 then [n] else (n % 128 + 128) :: putF f (n / 128)
def put (n : Nat) : List Nat := putF 9 n

/-- What is taken: the number, how many bytes, which error. -/
def tk : Nat → Nat → Nat → List Nat → Nat × Nat × Nat
  | 0, _, _, _ => (0, 0, 3)
  | _ + 1, _, _, [] => (0, 0, 2)
  | f + 1, i, n, c :: r =>
    if (i = 9 ∧ 1 < c) ∨ (0 < i ∧ c = 0) then (0, 0, 3)
    else if c < 128 then (n + c * 2 ^ (7 * i), i + 1, 0)
    else tk f (i + 1) (n + (c % 128) * 2 ^ (7 * i)) r
def take (bs : List Nat) : Nat × Nat × Nat := tk 10 0 0 bs

theorem tk_bad {f i n c : Nat} {r : List Nat} (h : (i = 9 ∧ 1 < c) ∨ (0 < i ∧ c = 0)) : tk (f + 1) i n (c :: r) = (0, 0, 3) := by rw [tk, if_pos h]
theorem tk_end {f i n c : Nat} {r : List Nat} (h : ¬ ((i = 9 ∧ 1 < c) ∨ (0 < i ∧ c = 0))) (hc : c < 128) : tk (f + 1) i n (c :: r) = (n + c * 2 ^ (7 * i), i + 1, 0) := by rw [tk, if_neg h, if_pos hc]
theorem tk_on {f i n c : Nat} {r : List Nat} (h : ¬ ((i = 9 ∧ 1 < c) ∨ (0 < i ∧ c = 0))) (hc : ¬ c < 128) : tk (f + 1) i n (c :: r) = tk f (i + 1) (n + (c % 128) * 2 ^ (7 * i)) r := by rw [tk, if_neg h, if_neg hc]

theorem pow7 (i : Nat) : 2 ^ (7 * (i + 1)) = 128 * 2 ^ (7 * i) := by
  rw [show 7 * (i + 1) = 7 * i + 7 from by omega, Nat.pow_add]; omega
theorem pow71 (f : Nat) : 2 ^ (7 * (f + 1) + 1) = 128 * 2 ^ (7 * f + 1) := by
  rw [show 7 * (f + 1) + 1 = (7 * f + 1) + 7 from by omega, Nat.pow_add]; omega

theorem putF_len (f n : Nat) : 1 ≤ (putF f n).length ∧ (putF f n).length ≤ f + 1 := by
  induction f generalizing n with
  | zero => simp [putF]
  | succ f ih =>
    unfold putF
    split
    · simp
    · have := ih (n / 128); simp only [List.length_cons]; omega
theorem put_len (n : Nat) : 1 ≤ (put n).length ∧ (put n).length ≤ 10 := putF_len 9 n

theorem putF_byte (f n : Nat) (h : n < 2 ^ (7 * f + 1)) : ∀ c ∈ putF f n, c < 256 := by
  induction f generalizing n with
  | zero => intro c hc; simp [putF] at hc; subst hc; simp at h; omega
  | succ f ih =>
    rw [pow71] at h
    unfold putF
    split
    · intro c hc; simp at hc; omega
    · intro c hc
      rcases List.mem_cons.1 hc with rfl | hc
      · omega
      · exact ih _ (by omega) c hc
theorem put_byte (n : Nat) (h : n < 18446744073709551616) : ∀ c ∈ put n, c < 256 := putF_byte 9 n h

/-- All bytes but the last one go on; the last one does not. -/
theorem putF_more (f n k : Nat) (h : n < 2 ^ (7 * f + 1)) (hk : k + 1 < (putF f n).length) : 128 ≤ (putF f n).getD k 0 := by
  induction f generalizing n k with
  | zero => simp [putF] at hk
  | succ f ih =>
    rw [pow71] at h
    unfold putF at hk ⊢
    split at hk
    · simp at hk
    · rename_i hn
      rw [if_neg hn]
      cases k with
      | zero => simp
      | succ k => simp only [List.getD_cons_succ]; exact ih (n / 128) k (by omega) (by simpa using hk)
theorem put_more (n k : Nat) (h : n < 18446744073709551616) (hk : k + 1 < (put n).length) : 128 ≤ (put n).getD k 0 := putF_more 9 n k h hk

theorem putF_last (f n : Nat) (h : n < 2 ^ (7 * f + 1)) (k : Nat) (hk : k + 1 = (putF f n).length) : (putF f n).getD k 0 < 128 := by
  induction f generalizing n k with
  | zero => simp [putF] at hk h ⊢; subst hk; simp; omega
  | succ f ih =>
    rw [pow71] at h
    unfold putF at hk ⊢
    split at hk
    · rename_i hn
      rw [if_pos hn]
      have : k = 0 := by simpa using hk
      subst this; simpa using hn
    · rename_i hn
      rw [if_neg hn]
      have := putF_len f (n / 128)
      simp only [List.length_cons] at hk
      cases k with
      | zero => omega
      | succ k => simp only [List.getD_cons_succ]; exact ih (n / 128) (by omega) k (by omega)

theorem tk_putF (f i s n : Nat) (rest : List Nat) (hi : i + f = 9) (hn : n < 2 ^ (7 * f + 1)) (h0 : i = 0 ∨ n ≠ 0) :
    tk (f + 1) i s (putF f n ++ rest) = (s + n * 2 ^ (7 * i), i + (putF f n).length, 0) := by
  induction f generalizing i s n with
  | zero =>
    have h1 : n < 2 := by simpa using hn
    simp only [putF, List.cons_append, List.nil_append, tk]
    rw [if_neg (by omega), if_pos (by omega)]
    simp
  | succ f ih =>
    rw [pow71] at hn
    unfold putF
    split
    · rename_i hc
      simp only [List.cons_append, List.nil_append, tk]
      rw [if_neg (by omega), if_pos (by omega)]
      simp
    · rename_i hc
      simp only [List.cons_append, tk]
      rw [if_neg (by omega), if_neg (by omega), ih (i + 1) _ (n / 128) (by omega) (by omega) (by omega)]
      have e : (n % 128 + 128) % 128 = n % 128 := by omega
      have hd : n % 128 + 128 * (n / 128) = n := Nat.mod_add_div n 128
      rw [e, pow7]
      refine Prod.ext ?_ (Prod.ext ?_ rfl)
      · show s + n % 128 * 2 ^ (7 * i) + n / 128 * (128 * 2 ^ (7 * i)) = s + n * 2 ^ (7 * i)
        rw [Nat.add_assoc, ← Nat.mul_assoc, ← Nat.add_mul, Nat.mul_comm (n / 128) 128, hd]
      · show i + 1 + _ = _
        simp only [List.length_cons]; omega
theorem take_put (n : Nat) (rest : List Nat) (h : n < 18446744073709551616) : take (put n ++ rest) = (n, (put n).length, 0) := by
  have := tk_putF 9 0 0 n rest rfl h (.inl rfl)
  simpa [take, put] using this
theorem take_put0 (n : Nat) (h : n < 18446744073709551616) : take (put n) = (n, (put n).length, 0) := by
  simpa using take_put n [] h

/-- What is taken is what it was put as. -/
theorem tk_back (f i s : Nat) (bs : List Nat) (x k : Nat) (hi : i + f = 9) (hb : ∀ c ∈ bs, c < 256) (h : tk (f + 1) i s bs = (x, k, 0)) :
    ∃ n, x = s + n * 2 ^ (7 * i) ∧ n < 2 ^ (7 * f + 1) ∧ (i = 0 ∨ n ≠ 0) ∧ i < k ∧ k - i ≤ bs.length ∧ bs.take (k - i) = putF f n := by
  induction f generalizing i s bs with
  | zero =>
    cases bs with
    | nil => simp [tk] at h
    | cons c r =>
      simp only [tk] at h
      split at h
      · simp at h
      · rename_i hn
        split at h
        · simp only [Prod.mk.injEq] at h
          refine ⟨c, h.1.symm, by simp; omega, by omega, by omega, by simp; omega, ?_⟩
          rw [← h.2.1, show i + 1 - i = 1 by omega]; simp [putF]
        · simp at h
  | succ f ih =>
    cases bs with
    | nil => simp [tk] at h
    | cons c r =>
      rw [tk] at h
      split at h
      · simp at h
      · rename_i hn
        split at h
        · rename_i hc
          simp only [Prod.mk.injEq] at h
          refine ⟨c, h.1.symm, by rw [pow71]; have := Nat.two_pow_pos (7 * f + 1); omega, by omega, by omega, by simp; omega, ?_⟩
          rw [← h.2.1, show i + 1 - i = 1 by omega]; simp [putF, hc]
        · rename_i hc
          have hc2 := hb c (by simp)
          obtain ⟨m, h1, h2, h3, h4, h5, h6⟩ := ih (i + 1) _ r (by omega) (fun c hc => hb c (by simp [hc])) h
          have e1 : (c % 128 + m * 128) % 128 = c % 128 := by omega
          have e2 : (c % 128 + m * 128) / 128 = m := by omega
          refine ⟨c % 128 + m * 128, ?_, by rw [pow71]; omega, by omega, by omega, by simp only [List.length_cons]; omega, ?_⟩
          · rw [h1, pow7, Nat.add_mul]
            rw [Nat.mul_assoc, Nat.add_assoc]
          · rw [show k - i = (k - (i + 1)) + 1 by omega, List.take_succ_cons, h6]
            unfold putF
            rw [if_neg (by omega), e1, e2, show c % 128 + 128 = c by omega]
            cases f <;> rfl
theorem take_back (bs : List Nat) (x k : Nat) (hb : ∀ c ∈ bs, c < 256) (h : take bs = (x, k, 0)) :
    x < 18446744073709551616 ∧ 1 ≤ k ∧ k ≤ bs.length ∧ bs.take k = put x := by
  obtain ⟨n, h1, h2, _, h4, h5, h6⟩ := tk_back 9 0 0 bs x k rfl hb h
  have : x = n := by simpa using h1
  subst this
  exact ⟨h2, by omega, by omega, by simpa [put] using h6⟩

/-- The errors: short just if all bytes that there are go on, and there are fewer than may be. -/
theorem tk_err (f i s : Nat) (bs : List Nat) (hi : i + f = 10) : (tk f i s bs).2.2 = 0 ∨ tk f i s bs = (0, 0, 2) ∧ bs.length < f ∧ (∀ c ∈ bs, 128 ≤ c) ∨ tk f i s bs = (0, 0, 3) ∧ ¬ (bs.length < f ∧ ∀ c ∈ bs, 128 ≤ c) := by
  induction f generalizing i s bs with
  | zero => exact .inr (.inr ⟨rfl, by omega⟩)
  | succ f ih =>
    cases bs with
    | nil => exact .inr (.inl ⟨rfl, by simp, by simp⟩)
    | cons c r =>
      rw [tk]
      split
      · rename_i hc
        refine .inr (.inr ⟨rfl, fun ⟨h1, h2⟩ => ?_⟩)
        have := h2 c (by simp)
        rcases hc with hc | hc
        · simp only [List.length_cons] at h1; omega
        · omega
      · split
        · exact .inl rfl
        · rename_i hc
          rcases ih (i + 1) (s + c % 128 * 2 ^ (7 * i)) r (by omega) with h | ⟨h, h1, h2⟩ | ⟨h, h1⟩
          · exact .inl h
          · exact .inr (.inl ⟨h, by simp; omega, fun x hx => by rcases List.mem_cons.1 hx with rfl | hx; omega; exact h2 x hx⟩)
          · exact .inr (.inr ⟨h, fun ⟨h2, h3⟩ => h1 ⟨by simpa using h2, fun x hx => h3 x (by simp [hx])⟩⟩)
theorem take_err (bs : List Nat) : (take bs).2.2 = 0 ∨ take bs = (0, 0, 2) ∧ bs.length < 10 ∧ (∀ c ∈ bs, 128 ≤ c) ∨ take bs = (0, 0, 3) ∧ ¬ (bs.length < 10 ∧ ∀ c ∈ bs, 128 ≤ c) :=
  tk_err 10 0 0 bs rfl

/-- A number that is cut goes on. -/
theorem take_cut (n k : Nat) (h : n < 18446744073709551616) (hk : k < (put n).length) : take ((put n).take k) = (0, 0, 2) := by
  have hl := put_len n
  have hall : ∀ c ∈ (put n).take k, 128 ≤ c := by
    intro c hc
    obtain ⟨j, hj, rfl⟩ := List.getElem_of_mem hc
    simp only [List.length_take] at hj
    have := put_more n j h (by omega)
    rw [List.getElem_take]
    rwa [getD_at _ _ (by omega)] at this
  have hlen : ((put n).take k).length < 10 := by simp only [List.length_take]; omega
  rcases take_err ((put n).take k) with h0 | ⟨h0, _⟩ | ⟨_, h1⟩
  · exfalso
    obtain ⟨x, j, hx⟩ : ∃ x j, take ((put n).take k) = (x, j, 0) := ⟨_, _, Prod.ext rfl (Prod.ext rfl h0)⟩
    obtain ⟨h1, h2, h3, h4⟩ := take_back _ x j (fun c hc => put_byte n h c (List.mem_of_mem_take hc)) hx
    have hp := put_len x
    have hj : (put x).length = j := by rw [← h4, List.length_take]; omega
    have hlast : (put x).getD (j - 1) 0 < 128 := putF_last 9 x h1 (j - 1) (by rw [show (putF 9 x).length = j from hj]; omega)
    have hm : (put x).getD (j - 1) 0 ∈ (put n).take k := by
      rw [← h4, getD_at _ _ (by rw [h4]; omega)]
      exact List.mem_of_mem_take (List.getElem_mem _)
    have := hall _ hm
    omega
  · exact h0
  · exact absurd ⟨hlen, hall⟩ h1

theorem put_inj (a b : Nat) (ha : a < 18446744073709551616) (hb : b < 18446744073709551616) (h : put a = put b) : a = b := by
  have h1 := take_put0 a ha
  rw [h, take_put0 b hb] at h1
  exact (congrArg Prod.fst h1).symm

/-- The reference's way: bytes are summed till one ends, and held against what the sum is put as. -/
def rt (all : List Nat) : Nat → Nat → Nat → List Nat → Nat × Nat × Nat
  | 0, _, _, _ => (0, 0, 3)
  | _ + 1, _, _, [] => (0, 0, 2)
  | f + 1, i, n, c :: r =>
    if c < 128 then (if put ((n + c * 2 ^ (7 * i)) % 18446744073709551616) = all.take (i + 1) then ((n + c * 2 ^ (7 * i)) % 18446744073709551616, i + 1, 0) else (0, 0, 3))
    else rt all f (i + 1) ((n + (c % 128) * 2 ^ (7 * i)) % 18446744073709551616) r
theorem rt_tk (all : List Nat) (hb : ∀ c ∈ all, c < 256) : ∀ (f i n : Nat) (bs : List Nat), i + f = 10 → bs = all.drop i → i ≤ all.length → n < 2 ^ (7 * i) → take all = tk f i n bs → rt all f i n bs = take all := by
  intro f
  induction f with
  | zero => intro i n bs _ _ _ _ h; rw [h]; rfl
  | succ f ih =>
    intro i n bs hi hd hil hn h
    cases bs with
    | nil => rw [h]; rfl
    | cons c r =>
      have hlt : i < all.length := by
        rcases Nat.lt_or_ge i all.length with h' | h'
        · exact h'
        · rw [List.drop_eq_nil_of_le h'] at hd; cases hd
      have hc : c = all[i] ∧ r = all.drop (i + 1) := by
        rw [List.drop_eq_getElem_cons hlt] at hd; injection hd with h1 h2; exact ⟨h1, h2⟩
      have hc256 : c < 256 := by rw [hc.1]; exact hb _ (List.getElem_mem _)
      have hp : 2 ^ (7 * i) ≤ 9223372036854775808 := by
        have := Nat.pow_le_pow_right (show 0 < 2 by omega) (show 7 * i ≤ 63 by omega)
        simpa using this
      have hpos := Nat.two_pow_pos (7 * i)
      rw [rt]
      by_cases hend : c < 128
      · rw [if_pos hend]
        by_cases hput : put ((n + c * 2 ^ (7 * i)) % 18446744073709551616) = all.take (i + 1)
        · rw [if_pos hput]
          have h1 := take_put ((n + c * 2 ^ (7 * i)) % 18446744073709551616) (all.drop (i + 1)) (Nat.mod_lt _ (by omega))
          rw [hput, List.take_append_drop, List.length_take, Nat.min_eq_left (by omega)] at h1
          exact h1.symm
        · rw [if_neg hput, h, tk]
          split
          · rfl
          · rename_i hno
            exfalso
            rw [tk, if_neg hno, if_pos hend] at h
            have hb' := take_back all _ _ hb h
            refine hput ?_
            rw [Nat.mod_eq_of_lt hb'.1]
            exact hb'.2.2.2.symm
      · rw [if_neg hend]
        by_cases hi9 : i = 9
        · have hf : f = 0 := by omega
          subst hf
          rw [rt, h, tk]
          split
          · rfl
          · rw [tk]
        · have hp2 : 128 * 2 ^ (7 * i) ≤ 9223372036854775808 := by
            have := Nat.pow_le_pow_right (show 0 < 2 by omega) (show 7 * (i + 1) ≤ 63 by omega)
            rw [pow7] at this
            simpa using this
          have hlt2 : n + c % 128 * 2 ^ (7 * i) < 128 * 2 ^ (7 * i) := by
            have h1 : c % 128 * 2 ^ (7 * i) ≤ 127 * 2 ^ (7 * i) := Nat.mul_le_mul_right _ (by omega)
            omega
          rw [Nat.mod_eq_of_lt (by omega)]
          refine ih (i + 1) _ r (by omega) hc.2 hlt (by rw [pow7]; exact hlt2) ?_
          rw [h, tk, if_neg (by omega), if_neg hend]
theorem rt_take (bs : List Nat) (hb : ∀ c ∈ bs, c < 256) : rt bs 10 0 0 bs = take bs :=
  rt_tk bs hb 10 0 0 bs rfl rfl (Nat.zero_le _) (by simp) rfl
end Go.Proofs.Ytdkjdiamekfbdaa.Vi
