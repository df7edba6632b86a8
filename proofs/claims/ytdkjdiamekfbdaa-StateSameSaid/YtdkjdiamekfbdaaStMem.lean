/-
  Catalogues in memory.
-/
import Derived.Test.YtdkjdiamekfbdaaStPlain
import Derived.Test.YtdkjdiamekfbdaaRfSame
namespace Go.Proofs.Ytdkjdiamekfbdaa
open Go.RowKit
open Rf (Snp)
open St (Ses Opn Sta)

def secells (x : Ses) : List Value := [.int .i64 x.client, .int .i64 x.seq, .int .i64 x.code, .int .i64 x.n]
def opcells (x : Opn) : List Value := [.int .i64 x.set, .int .i64 x.client]
theorem se_len (x : Ses) : (secells x).length = 4 := rfl
theorem op_len (x : Opn) : (opcells x).length = 2 := rfl
theorem se_one (x : Ses) : ∀ u ∈ secells x, u.oneCell' = true := by
  intro u hu
  simp [secells] at hu
  rcases hu with rfl | rfl | rfl | rfl <;> rfl
theorem op_one (x : Opn) : ∀ u ∈ opcells x, u.oneCell' = true := by
  intro u hu
  simp [opcells] at hu
  rcases hu with rfl | rfl <;> rfl
theorem sess_info : (Try.prog.info? 42).map (fun i => (i.zero, i.size, i.bytes)) = some (some (.agg #[.int .i64 0, .int .i64 0, .int .i64 0, .int .i64 0]), 4, 32) := by kernel_rfl
theorem open_info : (Try.prog.info? 44).map (fun i => (i.zero, i.size, i.bytes)) = some (some (.agg #[.int .i64 0, .int .i64 0]), 2, 16) := by kernel_rfl
/-- The x-th client's cells, as loads spell them. -/
theorem rse_get {w : World} {B n : Nat} {A : Option Addr} {l : List Ses} (h : RdR secells 4 w B A n l) {k : Nat} (hk : k < n) : ∃ (ad : Addr) (x : Ses), A = some ad ∧ ad.block < B ∧ l[k]? = some x ∧
    w.cell? (ad.add (k * 4)) = some (.int .i64 x.client) ∧ w.cell? ⟨(ad.add (k * 4)).block, (ad.add (k * 4)).off + 1, none⟩ = some (.int .i64 x.seq) ∧ w.cell? ⟨(ad.add (k * 4)).block, (ad.add (k * 4)).off + 2, none⟩ = some (.int .i64 x.code) ∧ w.cell? ⟨(ad.add (k * 4)).block, (ad.add (k * 4)).off + 3, none⟩ = some (.int .i64 x.n) := by
  obtain ⟨ad, x, h1, h2, h3, hc⟩ := h.get se_len hk
  refine ⟨ad, x, h1, h2, h3, hc 0 _ rfl, ?_, ?_, ?_⟩
  · rw [add_spell' _ _ _ (by omega)]; exact hc 1 _ rfl
  · rw [add_spell' _ _ _ (by omega)]; exact hc 2 _ rfl
  · rw [add_spell' _ _ _ (by omega)]; exact hc 3 _ rfl
theorem rop_get {w : World} {B n : Nat} {A : Option Addr} {l : List Opn} (h : RdR opcells 2 w B A n l) {k : Nat} (hk : k < n) : ∃ (ad : Addr) (x : Opn), A = some ad ∧ ad.block < B ∧ l[k]? = some x ∧
    w.cell? (ad.add (k * 2)) = some (.int .i64 x.set) ∧ w.cell? ⟨(ad.add (k * 2)).block, (ad.add (k * 2)).off + 1, none⟩ = some (.int .i64 x.client) := by
  obtain ⟨ad, x, h1, h2, h3, hc⟩ := h.get op_len hk
  refine ⟨ad, x, h1, h2, h3, hc 0 _ rfl, ?_⟩
  rw [add_spell' _ _ _ (by omega)]; exact hc 1 _ rfl

/-- Where a catalogue's rows lie. -/
structure Pls where
  a1 : Option Addr
  n1 : Nat
  c1 : Nat
  a2 : Option Addr
  n2 : Nat
  c2 : Nat
  a3 : Option Addr
  n3 : Nat
  c3 : Nat
  S : List (Option Addr × Nat)
def noPls : Pls := ⟨none, 0, 0, none, 0, 0, none, 0, 0, []⟩
def stblk (s : Sta) (p : Pls) : Array Value := #[.int .i64 s.version, .int .i64 s.next, .int .i64 s.keep, .int .i64 s.quota, .slice p.a1 p.n1 p.c1, .slice p.a2 p.n2 p.c2, .slice p.a3 p.n3 p.c3]
def stagg (s : Sta) (p : Pls) : Value := .agg (stblk s p)
/-- What lies there reads as the catalogue's rows. -/
structure RdT (w : World) (B : Nat) (s : Sta) (p : Pls) : Prop where
  sess : RdR secells 4 w B p.a1 p.n1 s.sess
  opens : RdR opcells 2 w B p.a2 p.n2 s.opens
  snaps : RdS w B p.a3 p.n3 s.snaps p.S
  k1 : p.n1 ≤ p.c1 ∧ p.c1 ≤ 9223372036854775807
  k2 : p.n2 ≤ p.c2 ∧ p.c2 ≤ 9223372036854775807
  k3 : p.n3 ≤ p.c3 ∧ p.c3 ≤ 9223372036854775807
theorem RdT.below {w w' : World} {B : Nat} {s : Sta} {p : Pls} (h : RdT w B s p) (hb : Below B w w') : RdT w' B s p := ⟨h.sess.below hb, h.opens.below hb, h.snaps.below hb, h.k1, h.k2, h.k3⟩
theorem RdT.more {w : World} {B B' : Nat} {s : Sta} {p : Pls} (h : RdT w B s p) (hb : B ≤ B') : RdT w B' s p := ⟨h.sess.more hb, h.opens.more hb, h.snaps.more hb, h.k1, h.k2, h.k3⟩
/-- What a catalogue of the program may hold. -/
structure Tok (s : Sta) : Prop where
  v : I64 s.version
  x : I64 s.next
  k : I64 s.keep
  q : I64 s.quota
  sess : ∀ a ∈ s.sess, I64 a.client ∧ I64 a.seq ∧ I64 a.code ∧ I64 a.n
  opens : ∀ a ∈ s.opens, I64 a.set ∧ I64 a.client
  snaps : ∀ a ∈ s.snaps, Snok a
theorem stblk_cells {w : World} {g : Nat} {t : TypeId} {s : Sta} {p : Pls} (h : Blk w g t (stblk s p)) :
    w.cell? ⟨g, 0, none⟩ = some (.int .i64 s.version) ∧ w.cell? ⟨g, 1, none⟩ = some (.int .i64 s.next) ∧ w.cell? ⟨g, 2, none⟩ = some (.int .i64 s.keep) ∧ w.cell? ⟨g, 3, none⟩ = some (.int .i64 s.quota) ∧
    w.cell? ⟨g, 4, none⟩ = some (.slice p.a1 p.n1 p.c1) ∧ w.cell? ⟨g, 5, none⟩ = some (.slice p.a2 p.n2 p.c2) ∧ w.cell? ⟨g, 6, none⟩ = some (.slice p.a3 p.n3 p.c3) :=
  ⟨(h.cell 0).trans rfl, (h.cell 1).trans rfl, (h.cell 2).trans rfl, (h.cell 3).trans rfl, (h.cell 4).trans rfl, (h.cell 5).trans rfl, (h.cell 6).trans rfl⟩
theorem box_st (w : World) (s : Sta) (p : Pls) (t : TypeId) : ∃ w0 : World, w0 = w.alloc (.cells (stblk s p) t) ∧ Blk w0 w.heap.size t (stblk s p) ∧ Below w.heap.size w w0 ∧ w.heap.size < w0.heap.size :=
  ⟨_, rfl, Blk.new _ _ _, (Below.refl _ _).alloc (Nat.le_refl _) _, by simp⟩
/-- A catalogue that comes back. -/
def StBack (w : World) (s : Sta) (e : Ending) (w' : World) : Prop := ∃ p, e = .returned (stagg s p) ∧ RdT w' w'.heap.size s p ∧ Below w.heap.size w w'
theorem rdt_fresh (w : World) (B : Nat) : RdT w B St.fresh noPls := ⟨RdR.nil _ _ _, RdR.nil _ _ _, RdP.nil _ _ _, by decide, by decide, by decide⟩
theorem tok_fresh : Tok St.fresh := ⟨by unfold I64; decide, by unfold I64; decide, by unfold I64; decide, by unfold I64; decide, by simp [St.fresh], by simp [St.fresh], by simp [St.fresh]⟩
end Go.Proofs.Ytdkjdiamekfbdaa
