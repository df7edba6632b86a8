/-
  Snapshots in memory.
-/
import Derived.Test.YtdkjdiamekfbdaaRfPlain
import Derived.Test.YtdkjdiamekfbdaaRowP
import Derived.Test.YtdkjdiamekfbdaaNums
namespace Go.Proofs.Ytdkjdiamekfbdaa
open Go.RowKit
open Rf (Snp)

/-- A snapshot's cells: its chunks lie at s. -/
def sncells (a : Snp) (s : Option Addr × Nat) : List Value := [.int .i64 a.id, .int .i64 a.set, .slice s.1 a.chunks.length s.2, .bool a.held, .string (strOf a.tag)]
def snagg (a : Snp) (s : Option Addr × Nat) : Value := .agg (sncells a s).toArray
def sninn (a : Snp) : List Value := ivs a.chunks
theorem sn_len (a : Snp) (s : Option Addr × Nat) : (sncells a s).length = 5 := rfl
theorem sn_one (a : Snp) (s : Option Addr × Nat) : ∀ u ∈ sncells a s, u.oneCell' = true := by
  intro u hu
  simp [sncells] at hu
  rcases hu with rfl | rfl | rfl | rfl | rfl <;> rfl
theorem snap_info : (Try.prog.info? 38).map (fun i => (i.zero, i.size, i.bytes)) = some (some (.agg #[.int .i64 0, .int .i64 0, .slice none 0 0, .bool false, .string (strOf [])]), 5, 64) := by kernel_rfl

/-- What a snapshot of the program may hold. -/
def Snok (a : Snp) : Prop := I64 a.id ∧ I64 a.set ∧ (∀ x ∈ a.chunks, I64 x) ∧ ∀ b ∈ a.tag, b < 256

/-- A slice that reads as these snapshots. -/
abbrev RdS (w : World) (B : Nat) (A : Option Addr) (n : Nat) (l : List Snp) (S : List (Option Addr × Nat)) : Prop := RdP sncells sninn 5 w B A n l S
abbrev InnS (w : World) (B : Nat) (l : List Snp) (S : List (Option Addr × Nat)) : Prop := Inn sninn w B l S
/-- The k-th snapshot, its cells as loads spell them. -/
theorem rds_get {w : World} {B n : Nat} {A : Option Addr} {l : List Snp} {S : List (Option Addr × Nat)} (h : RdS w B A n l S) {k : Nat} (hk : k < n) : ∃ (ad : Addr) (a : Snp) (s : Option Addr × Nat), A = some ad ∧ ad.block < B ∧ l[k]? = some a ∧ S[k]? = some s ∧
    w.cell? (ad.add (k * 5)) = some (.int .i64 a.id) ∧ w.cell? ⟨(ad.add (k * 5)).block, (ad.add (k * 5)).off + 1, none⟩ = some (.int .i64 a.set) ∧ w.cell? ⟨(ad.add (k * 5)).block, (ad.add (k * 5)).off + 2, none⟩ = some (.slice s.1 a.chunks.length s.2) ∧
    w.cell? ⟨(ad.add (k * 5)).block, (ad.add (k * 5)).off + 3, none⟩ = some (.bool a.held) ∧ w.cell? ⟨(ad.add (k * 5)).block, (ad.add (k * 5)).off + 4, none⟩ = some (.string (strOf a.tag)) ∧
    Rd w B 1 s.1 a.chunks.length (ivs a.chunks) ∧ a.chunks.length ≤ s.2 ∧ s.2 ≤ 9223372036854775807 := by
  obtain ⟨ad, a, s, h1, h2, h3, h4, hc, h5, h6, h7⟩ := h.get sn_len hk
  have hl : (sninn a).length = a.chunks.length := ivs_len _
  rw [hl] at h5 h6
  refine ⟨ad, a, s, h1, h2, h3, h4, hc 0 _ rfl, ?_, ?_, ?_, ?_, h5, h6, h7⟩
  · rw [add_spell' _ _ _ (by omega)]; exact hc 1 _ rfl
  · rw [add_spell' _ _ _ (by omega)]; exact hc 2 _ rfl
  · rw [add_spell' _ _ _ (by omega)]; exact hc 3 _ rfl
  · rw [add_spell' _ _ _ (by omega)]; exact hc 4 _ rfl
/-- A value that is a slice of these snapshots. -/
def NewSnaps (w : World) (l : List Snp) (v : Value) : Prop := ∃ (A : Option Addr) (n c : Nat) (S : List (Option Addr × Nat)), v = .slice A n c ∧ n ≤ c ∧ c ≤ 9223372036854775807 ∧ RdS w w.heap.size A n l S
theorem NewSnaps.below {w w' : World} {l : List Snp} {v : Value} (h : NewSnaps w l v) (hb : Below w.heap.size w w') : NewSnaps w' l v := by
  obtain ⟨A, n, c, S, h1, h2, h3, h4⟩ := h
  exact ⟨A, n, c, S, h1, h2, h3, (h4.below hb).more hb.size⟩
/-- A row of the call's own that reads as snapshots; what they hold lies below block B. -/
theorem snaps_of_own {w : World} {base B n : Nat} {e : TypeId} {v : Value} {l : List Snp} {S : List (Option Addr × Nat)} (h : w.ownsRow base e 5 v n (pcells sncells l S)) (hl : l.length = n) (hi : InnS w B l S) (hB : B ≤ w.heap.size) : NewSnaps w l v := by
  obtain ⟨A, c, h1, h2, h3, h4⟩ := RdP.of_own (inn := sninn) h hl (by rw [hi.1, hl]) hB hi.2
  exact ⟨A, n, c, S, h1, h2, h3, h4⟩
end Go.Proofs.Ytdkjdiamekfbdaa
