/-
  Plain facts on whole fields that were laid down, and on cut ones.
-/
import Derived.Test.YtmcbifdfpaooaaaTgPlain
namespace Go.Proofs.Ytmcbifdfpaooaaa.Tg
open Go.Proofs.Ytmcbifdfpaooaaa.Vi (put take put_len put_byte take_put take_put0 take_back take_cut take_err put_inj)

theorem drop_len {α : Type} (a b : List α) {n : Nat} (h : n = a.length) : (a ++ b).drop n = b := by subst h; simp

theorem ttake_cut {num wire : Int} (h : okTag num wire = true) {j : Nat} (hj : j < (tput num wire).1.length) : ttake ((tput num wire).1.take j) = ⟨0, 0, 0, 2⟩ := by
  have hb := okTag_iff.1 h
  rw [tput_ok h] at hj ⊢
  exact ttake_bad (take_cut _ j (by omega) hj) (by decide)

theorem skip_number {num : Int} (h : okTag num 0 = true) (n : Nat) (hn : n < 18446744073709551616) (rest : List Nat) :
    tskip ((tput num 0).1 ++ put n ++ rest) = ((tput num 0).1.length + (put n).length, 0) := by
  rw [List.append_assoc]
  exact tskip_num (ttake_put num 0 (put n ++ rest) h) (by rw [drop_len _ _ rfl]; exact take_put n rest hn)
theorem skip_bytes {num : Int} (h : okTag num 2 = true) (xs rest : List Nat) (hx : xs.length ≤ 16384) :
    tskip ((tput num 2).1 ++ put xs.length ++ xs ++ rest) = ((tput num 2).1.length + (put xs.length).length + xs.length, 0) := by
  rw [List.append_assoc, List.append_assoc]
  refine tskip_bytes (ttake_put num 2 (put xs.length ++ (xs ++ rest)) h) (by rw [drop_len _ _ rfl]; exact take_put xs.length (xs ++ rest) (by omega)) (by omega) ?_
  simp only [List.length_append]
  omega
theorem skip_number_cut {num : Int} (h : okTag num 0 = true) (n : Nat) (hn : n < 18446744073709551616) {j : Nat} (hj : j < (tput num 0).1.length + (put n).length) :
    tskip (((tput num 0).1 ++ put n).take j) = (0, 2) := by
  by_cases h1 : j < (tput num 0).1.length
  · rw [List.take_append_of_le_length (Nat.le_of_lt h1)]
    exact tskip_bad (ttake_cut h h1) (by decide)
  · have h2 : ((tput num 0).1 ++ put n).take j = (tput num 0).1 ++ (put n).take (j - (tput num 0).1.length) := by
      rw [List.take_append, List.take_of_length_le (by omega)]
    rw [h2]
    exact tskip_bad2 (ttake_put num 0 _ h) (by rw [drop_len _ _ rfl]; exact take_cut n _ hn (by omega)) (by decide)
theorem skip_bytes_cut {num : Int} (h : okTag num 2 = true) (xs : List Nat) (hx : xs.length ≤ 16384) {j : Nat} (hj : j < (tput num 2).1.length + (put xs.length).length + xs.length) :
    tskip (((tput num 2).1 ++ put xs.length ++ xs).take j) = (0, 2) := by
  rw [List.append_assoc]
  by_cases h1 : j < (tput num 2).1.length
  · rw [List.take_append_of_le_length (Nat.le_of_lt h1)]
    exact tskip_bad (ttake_cut h h1) (by decide)
  · have h2 : ((tput num 2).1 ++ (put xs.length ++ xs)).take j = (tput num 2).1 ++ (put xs.length ++ xs).take (j - (tput num 2).1.length) := by
      rw [List.take_append, List.take_of_length_le (by omega)]
    rw [h2]
    by_cases h3 : j - (tput num 2).1.length < (put xs.length).length
    · rw [List.take_append_of_le_length (Nat.le_of_lt h3)]
      exact tskip_bad2 (ttake_put num 2 _ h) (by rw [drop_len _ _ rfl]; exact take_cut _ _ (by omega) h3) (by decide)
    · have h4 : (put xs.length ++ xs).take (j - (tput num 2).1.length) = put xs.length ++ xs.take (j - (tput num 2).1.length - (put xs.length).length) := by
        rw [List.take_append, List.take_of_length_le (by omega)]
      rw [h4]
      refine tskip_short (ttake_put num 2 _ h) (by rw [drop_len _ _ rfl]; exact take_put _ _ (by omega)) (by omega) ?_
      simp only [List.length_append, List.length_take]
      omega
end Go.Proofs.Ytmcbifdfpaooaaa.Tg
