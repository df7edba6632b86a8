/-
  '[]byte(s)' of a text: a new row of its bytes.
-/
import Derived.Test.YtkagonijkalicaaWords
import Derived.Lib.ConvBytes
import Derived.Laws.AppendOwn
set_option linter.unusedVariables false
set_option linter.unusedSimpArgs false
namespace Go.Proofs.Ytkagonijkalicaa
open Go.RowKit

theorem strOf_byte (l : List Nat) (hl : ∀ c ∈ l, c < 256) (j : Nat) (hj : j < l.length) : ((strOf l).data.toList.getD j 0).toNat = l[j] := by
  have h := hl l[j] (List.getElem_mem hj)
  simp [strOf, List.getD, hj]
  omega
theorem conv_text {P : Program} (w : World) (src dst e : TypeId) (t : List Nat) {u : TypeDesc} (hs : P.underlying src = some u) (hd : P.underlying dst = some (.slice e)) (he : P.underlying e = some (.int .u8)) (ht : ∀ c ∈ t, c < 256) (hm : t.length ≤ maxLen) :
    ∃ (cap : Nat) (w' : World), (convert src dst (.string (strOf t))).run P w = .ok (.slice (some ⟨w.heap.size, 0, none⟩) t.length cap) w' ∧ t.length ≤ cap ∧ cap ≤ 9223372036854775807 ∧ Below w.heap.size w w' ∧ w'.heap.size = w.heap.size + 1 ∧
      Rd w' w'.heap.size 1 (some ⟨w.heap.size, 0, none⟩) t.length (bvs t) := by
  have hsz := strOf_size t
  refine ⟨grownCap w t.length 0 e, Lib.bytesWorld w e (strOf t), ?_, grownCap_ge _ _ _ _, ?_, ⟨rfl, rfl, rfl, ?_, ?_⟩, Lib.bytesWorld_size _ _ _, by simp [bvs], .inr ⟨_, rfl, ?_, ?_⟩⟩
  · have h := Lib.run_convert_string_bytes (P := P) w src dst e (strOf t) hs hd he
    rw [hsz] at h
    exact h
  · have := grownCap_le_maxLen w t.length 0 e hm
    unfold maxLen at this
    omega
  · rw [Lib.bytesWorld_size]; omega
  · exact fun k hk => Lib.bytesWorld_at_old w e (strOf t) k hk
  · rw [Lib.bytesWorld_size]; exact Nat.lt_succ_self _
  · intro j v hv
    have hj : j < t.length := by have := (List.getElem?_eq_some_iff.1 hv).1; rwa [bvs_len] at this
    have hadd : (⟨w.heap.size, 0, none⟩ : Addr).add j = ⟨w.heap.size, j, none⟩ := by unfold Addr.add; split <;> simp_all
    rw [hadd, Lib.bytesWorld_cell w e (strOf t) j (by rw [hsz]; exact hj), strOf_byte t ht j hj]
    simp [bvs, bv, hj] at hv
    rw [← hv]
end Go.Proofs.Ytkagonijkalicaa
