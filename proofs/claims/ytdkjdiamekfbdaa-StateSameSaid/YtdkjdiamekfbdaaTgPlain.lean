/-
  Plain facts on tags: a field's number and kind as one number in groups of seven bits.
-/
import Derived.Test.YtdkjdiamekfbdaaViPlain
namespace Go.Proofs.Ytdkjdiamekfbdaa.Tg
open Go.Proofs.Ytdkjdiamekfbdaa.Vi (put take put_len put_byte take_put take_put0 take_back take_cut take_err put_inj)

def okTag (num wire : Int) : Bool := decide (1 ≤ num ∧ num ≤ 1000 ∧ (wire = 0 ∨ wire = 2))
/-- What is laid down, and the error. -/
def tput (num wire : Int) : List Nat × Nat := if okTag num wire then (put (8 * num + wire).toNat, 0) else ([], 1)
/-- Number, kind, size, error. -/
structure T4 where
  num : Nat
  wire : Nat
  size : Nat
  err : Nat
def ttake (bs : List Nat) : T4 :=
  if (take bs).2.2 ≠ 0 then ⟨0, 0, 0, (take bs).2.2⟩
  else if okTag ((take bs).1 / 8 : Nat) ((take bs).1 % 8 : Nat) then ⟨(take bs).1 / 8, (take bs).1 % 8, (take bs).2.1, 0⟩
  else ⟨0, 0, 0, 6⟩
/-- How many bytes a field has, and the error. -/
def tskip (bs : List Nat) : Nat × Nat :=
  if (ttake bs).err ≠ 0 then (0, (ttake bs).err)
  else if (take (bs.drop (ttake bs).size)).2.2 ≠ 0 then (0, (take (bs.drop (ttake bs).size)).2.2)
  else if (ttake bs).wire = 0 then ((ttake bs).size + (take (bs.drop (ttake bs).size)).2.1, 0)
  else if 16384 < (take (bs.drop (ttake bs).size)).1 then (0, 4)
  else if bs.length - (ttake bs).size - (take (bs.drop (ttake bs).size)).2.1 < (take (bs.drop (ttake bs).size)).1 then (0, 2)
  else ((ttake bs).size + (take (bs.drop (ttake bs).size)).2.1 + (take (bs.drop (ttake bs).size)).1, 0)

theorem okTag_iff {num wire : Int} : okTag num wire = true ↔ 1 ≤ num ∧ num ≤ 1000 ∧ (wire = 0 ∨ wire = 2) := by simp [okTag]
theorem tput_ok {num wire : Int} (h : okTag num wire = true) : tput num wire = (put (8 * num + wire).toNat, 0) := by simp [tput, h]
theorem tput_no {num wire : Int} (h : okTag num wire = false) : tput num wire = ([], 1) := by simp [tput, h]
theorem tput_byte (num wire : Int) : ∀ c ∈ (tput num wire).1, c < 256 := by
  cases h : okTag num wire with
  | false => rw [tput_no h]; simp
  | true =>
    rw [tput_ok h]
    have := okTag_iff.1 h
    exact put_byte _ (by omega)
theorem ttake_bad {bs : List Nat} {n k e : Nat} (h : take bs = (n, k, e)) (he : e ≠ 0) : ttake bs = ⟨0, 0, 0, e⟩ := by simp [ttake, h, he]
theorem ttake_no {bs : List Nat} {n k : Nat} (h : take bs = (n, k, 0)) (ho : okTag (n / 8 : Nat) (n % 8 : Nat) = false) : ttake bs = ⟨0, 0, 0, 6⟩ := by
  unfold ttake; rw [h]; simp only [ne_eq, not_true, if_false]; rw [if_neg (by rw [ho]; decide)]
theorem ttake_ok {bs : List Nat} {n k : Nat} (h : take bs = (n, k, 0)) (ho : okTag (n / 8 : Nat) (n % 8 : Nat) = true) : ttake bs = ⟨n / 8, n % 8, k, 0⟩ := by
  unfold ttake; rw [h]; simp only [ne_eq, not_true, if_false]; rw [if_pos ho]

/-- What was put is taken. -/
theorem ttake_put (num wire : Int) (rest : List Nat) (h : okTag num wire = true) : ttake ((tput num wire).1 ++ rest) = ⟨num.toNat, wire.toNat, (tput num wire).1.length, 0⟩ := by
  have hb := okTag_iff.1 h
  rw [tput_ok h]
  have ht := take_put (8 * num + wire).toNat rest (by omega)
  have e1 : (8 * num + wire).toNat / 8 = num.toNat := by omega
  have e2 : (8 * num + wire).toNat % 8 = wire.toNat := by omega
  rw [ttake_ok ht (by rw [e1, e2]; refine okTag_iff.2 ⟨by omega, by omega, by omega⟩), e1, e2]
/-- What is taken is what it was put as. -/
theorem ttake_back {bs : List Nat} (hb : ∀ c ∈ bs, c < 256) (h : (ttake bs).err = 0) :
    okTag (ttake bs).num (ttake bs).wire = true ∧ 1 ≤ (ttake bs).size ∧ (ttake bs).size ≤ bs.length ∧ (ttake bs).size ≤ 10 ∧ bs.take (ttake bs).size = (tput (ttake bs).num (ttake bs).wire).1 := by
  obtain ⟨n, k, e, ht⟩ : ∃ n k e, take bs = (n, k, e) := ⟨_, _, _, rfl⟩
  by_cases he : e = 0
  · subst he
    cases ho : okTag (n / 8 : Nat) (n % 8 : Nat) with
    | false => rw [ttake_no ht ho] at h; cases h
    | true =>
      rw [ttake_ok ht ho] at h ⊢
      obtain ⟨h1, h2, h3, h4⟩ := take_back bs n k hb ht
      refine ⟨ho, h2, h3, ?_, ?_⟩
      · have := put_len n
        have h5 := congrArg List.length h4
        rw [List.length_take] at h5
        show k ≤ 10
        omega
      · rw [tput_ok ho, h4]
        congr 1
        show n = (8 * ((n / 8 : Nat) : Int) + ((n % 8 : Nat) : Int)).toNat
        omega
  · rw [ttake_bad ht he] at h
    exact absurd h he
theorem ttake_err {bs : List Nat} (h : (ttake bs).err ≠ 0) : (ttake bs).num = 0 ∧ (ttake bs).wire = 0 ∧ (ttake bs).size = 0 := by
  unfold ttake at h ⊢
  split
  · exact ⟨rfl, rfl, rfl⟩
  · rename_i h1
    rw [if_neg h1] at h
    split
    · rename_i h2; rw [if_pos h2] at h; exact absurd rfl h
    · exact ⟨rfl, rfl, rfl⟩
theorem ttake_le {bs : List Nat} (hb : ∀ c ∈ bs, c < 256) : (ttake bs).num ≤ 1000 ∧ (ttake bs).wire ≤ 2 ∧ (ttake bs).size ≤ 10 ∧ (ttake bs).size ≤ bs.length := by
  by_cases h : (ttake bs).err = 0
  · obtain ⟨h1, _, h3, h4, _⟩ := ttake_back hb h
    have := okTag_iff.1 h1
    omega
  · obtain ⟨h1, h2, h3⟩ := ttake_err h
    omega
/-- Sizes of tags. -/
theorem tput_len {num wire : Int} (h : okTag num wire = true) : (tput num wire).1.length = if num < 16 then 1 else 2 := by
  have hb := okTag_iff.1 h
  rw [tput_ok h]
  unfold put
  rw [Vi.putF]
  by_cases h1 : (8 * num + wire).toNat < 128
  · rw [if_pos h1, if_pos (by omega)]; rfl
  · rw [if_neg h1, if_neg (by omega), Vi.putF, if_pos (by omega)]; rfl
theorem take_le {bs : List Nat} (hb : ∀ c ∈ bs, c < 256) : (take bs).2.1 ≤ 10 ∧ (take bs).2.1 ≤ bs.length ∧ (take bs).1 < 18446744073709551616 ∧ (take bs).2.2 ≤ 3 := by
  rcases take_err bs with h | ⟨h, _⟩ | ⟨h, _⟩
  · obtain ⟨x, k, hx⟩ : ∃ x k, take bs = (x, k, 0) := ⟨_, _, Prod.ext rfl (Prod.ext rfl h)⟩
    obtain ⟨h1, h2, h3, h4⟩ := take_back bs x k hb hx
    have := put_len x
    have h5 := congrArg List.length h4
    rw [List.length_take] at h5
    rw [hx]
    show k ≤ 10 ∧ k ≤ bs.length ∧ x < _ ∧ 0 ≤ 3
    omega
  · rw [h]; simp
  · rw [h]; simp
theorem tskip_bad {bs : List Nat} {a b c e : Nat} (h : ttake bs = ⟨a, b, c, e⟩) (he : e ≠ 0) : tskip bs = (0, e) := by simp [tskip, h, he]
theorem tskip_bad2 {bs : List Nat} {a b c x k e : Nat} (h : ttake bs = ⟨a, b, c, 0⟩) (hx : take (bs.drop c) = (x, k, e)) (he : e ≠ 0) : tskip bs = (0, e) := by simp [tskip, h, hx, he]
theorem tskip_num {bs : List Nat} {a c x k : Nat} (h : ttake bs = ⟨a, 0, c, 0⟩) (hx : take (bs.drop c) = (x, k, 0)) : tskip bs = (c + k, 0) := by simp [tskip, h, hx]
theorem tskip_big {bs : List Nat} {a c x k : Nat} (h : ttake bs = ⟨a, 2, c, 0⟩) (hx : take (bs.drop c) = (x, k, 0)) (hb : 16384 < x) : tskip bs = (0, 4) := by simp [tskip, h, hx, hb]
theorem tskip_short {bs : List Nat} {a c x k : Nat} (h : ttake bs = ⟨a, 2, c, 0⟩) (hx : take (bs.drop c) = (x, k, 0)) (hb : ¬ 16384 < x) (hs : bs.length - c - k < x) : tskip bs = (0, 2) := by simp [tskip, h, hx, hb, hs]
theorem tskip_bytes {bs : List Nat} {a c x k : Nat} (h : ttake bs = ⟨a, 2, c, 0⟩) (hx : take (bs.drop c) = (x, k, 0)) (hb : ¬ 16384 < x) (hs : ¬ bs.length - c - k < x) : tskip bs = (c + k + x, 0) := by simp [tskip, h, hx, hb, hs]
end Go.Proofs.Ytdkjdiamekfbdaa.Tg
