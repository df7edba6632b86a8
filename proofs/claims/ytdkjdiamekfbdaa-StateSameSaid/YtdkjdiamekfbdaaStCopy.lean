/-
  The walk of the reference of layer 7: Copy.
-/
import Derived.Test.YtdkjdiamekfbdaaStIn
import Derived.Test.YtdkjdiamekfbdaaOwn
namespace Go.Proofs.Ytdkjdiamekfbdaa
open Go.RowKit
open Rf (Snp)
open St (Ses Opn Sta)

/-- A catalogue whose rows are the call's own, from block b on. -/
structure OwnT (w : World) (b : Nat) (s : Sta) (p : Pls) : Prop where
  sess : w.ownsRow b 42 4 (.slice p.a1 p.n1 p.c1) p.n1 (rowc secells s.sess)
  opens : w.ownsRow b 44 2 (.slice p.a2 p.n2 p.c2) p.n2 (rowc opcells s.opens)
  snaps : w.ownsRow b 38 5 (.slice p.a3 p.n3 p.c3) p.n3 (pcells sncells s.snaps p.S)
  l1 : s.sess.length = p.n1
  l2 : s.opens.length = p.n2
  l3 : s.snaps.length = p.n3
  l4 : p.S.length = p.n3
  chunks : ∀ (k : Nat) (f : Snp) (t : Option Addr × Nat), s.snaps[k]? = some f → p.S[k]? = some t → w.ownsRow b 3 1 (.slice t.1 f.chunks.length t.2) f.chunks.length (ivs f.chunks)
theorem OwnT.rdt {w : World} {b : Nat} {s : Sta} {p : Pls} (h : OwnT w b s p) : RdT w w.heap.size s p := by
  refine ⟨⟨h.l1, Rd.of_own h.sess⟩, ⟨h.l2, Rd.of_own h.opens⟩, ⟨h.l3, h.l4, Rd.of_own h.snaps, fun k f t hf ht => ?_⟩, own_cap' h.sess, own_cap' h.opens, own_cap' h.snaps⟩
  have hc := h.chunks k f t hf ht
  have hl : (sninn f).length = f.chunks.length := ivs_len _
  rw [hl]
  exact ⟨Rd.of_own hc, own_cap' hc⟩
theorem OwnT.up {w w' : World} {b : Nat} {s : Sta} {p : Pls} (h : OwnT w b s p) (hk : ∀ g, b ≤ g → g < w.heap.size → w'.heap[g]? = w.heap[g]?) : OwnT w' b s p :=
  ⟨own_up h.sess hk, own_up h.opens hk, own_up h.snaps hk, h.l1, h.l2, h.l3, h.l4, fun k f t hf ht => own_up (h.chunks k f t hf ht) hk⟩
theorem OwnT.down {w : World} {b b' : Nat} {s : Sta} {p : Pls} (h : OwnT w b s p) (hb : b' ≤ b) : OwnT w b' s p :=
  ⟨own_down h.sess hb, own_down h.opens hb, own_down h.snaps hb, h.l1, h.l2, h.l3, h.l4, fun k f t hf ht => own_down (h.chunks k f t hf ht) hb⟩
/-- Not too much of it. -/
structure Small (s : Sta) : Prop where
  k1 : s.sess.length ≤ 100
  k2 : s.opens.length ≤ 100
  k3 : s.snaps.length ≤ 100
  k4 : ∀ a ∈ s.snaps, a.chunks.length ≤ 100

/-- Where the copying stands behind j snapshots. -/
structure CpInv (u wr : World) (s : Sta) (p : Pls) (v1 v2 : Value) (j : Nat) (v : Value) (S : List (Option Addr × Nat)) : Prop where
  box : Blk wr u.heap.size 26 (stblk s p)
  res : Blk wr (u.heap.size + 1) 26 #[.int .i64 0, .int .i64 0, .int .i64 0, .int .i64 0, .slice none 0 0, .slice none 0 0, .slice none 0 0]
  out : Blk wr (u.heap.size + 2) 26 #[.int .i64 s.version, .int .i64 s.next, .int .i64 s.keep, .int .i64 s.quota, v1, v2, v]
  sess : wr.ownsRow u.heap.size 42 4 v1 p.n1 (rowc secells s.sess)
  opens : wr.ownsRow u.heap.size 44 2 v2 p.n2 (rowc opcells s.opens)
  snaps : wr.ownsRow u.heap.size 38 5 v j (pcells sncells (s.snaps.take j) S)
  len : S.length = j
  chunks : ∀ (k : Nat) (f : Snp) (t : Option Addr × Nat), k < j → s.snaps[k]? = some f → S[k]? = some t → wr.ownsRow u.heap.size 3 1 (.slice t.1 f.chunks.length t.2) f.chunks.length (ivs f.chunks)
  below : Below u.heap.size u wr

theorem CpInv.step {u wr w1 w4 : World} {s : Sta} {p : Pls} {v1 v2 v vc v' : Value} {j : Nat} {S : List (Option Addr × Nat)} {x : Snp} {t : Option Addr × Nat} {ts : Option Addr × Nat} (h : CpInv u wr s p v1 v2 j v S) (hx : s.snaps[j]? = some x)
    (hc : vc = .slice t.1 x.chunks.length t.2)
    (o1 : w1.ownsRow u.heap.size 3 1 vc x.chunks.length (ivs x.chunks)) (g1 : ((wr.alloc (.cells (sncells x ts).toArray 38)).alloc (.cells #[] 3)).grownBy w1 (some (wr.heap.size + 1)))
    (o2 : w4.ownsRow u.heap.size 38 5 v' (j + 1) (pcells sncells (s.snaps.take j) S ++ sncells x t)) (g2 : ((w1.setCell ⟨wr.heap.size, 2, none⟩ vc).alloc (.cells (sncells x t).toArray 38)).grownBy w4 v.ownBlock) :
    CpInv u (w4.setCell ⟨u.heap.size + 2, 6, none⟩ v') s p v1 v2 (j + 1) v' (S ++ [t]) := by
  have hwu := h.below.size
  have hlt3 := h.out.lt
  obtain ⟨wA, hwA⟩ : ∃ wA : World, wA = wr.alloc (.cells (sncells x ts).toArray 38) := ⟨_, rfl⟩
  obtain ⟨wB, hwB⟩ : ∃ wB : World, wB = wA.alloc (.cells #[] 3) := ⟨_, rfl⟩
  have hA : Blk wA wr.heap.size 38 (sncells x ts).toArray := by rw [hwA]; exact Blk.new _ _ _
  have hsA : wA.heap.size = wr.heap.size + 1 := by rw [hwA]; simp
  have hB : Blk wB wr.heap.size 38 (sncells x ts).toArray := by rw [hwB]; exact hA.alloc _
  rw [← hwA, ← hwB] at g1
  have h1 : Blk w1 wr.heap.size 38 (sncells x ts).toArray := blk_kept hB g1 (by simp)
  obtain ⟨w2, hw2⟩ : ∃ w2 : World, w2 = w1.setCell ⟨wr.heap.size, 2, none⟩ vc := ⟨_, rfl⟩
  obtain ⟨w3, hw3⟩ : ∃ w3 : World, w3 = w2.alloc (.cells (sncells x t).toArray 38) := ⟨_, rfl⟩
  rw [← hw2, ← hw3] at g2
  have up3 : ∀ {e : TypeId} {sz n : Nat} {y : Value} {xs : List Value}, wr.ownsRow u.heap.size e sz y n xs → w3.ownsRow u.heap.size e sz y n xs := by
    intro e sz n y xs hy
    have e1 : wB.ownsRow u.heap.size e sz y n xs := by rw [hwB, hwA]; exact (hy.alloc _).alloc _
    have e2 := e1.kept g1 (.inr fun e => by have := (hy.lt _ e).2; omega)
    rw [hw3, hw2]
    exact (own_away e2 (fun e => by have := (hy.lt _ e.symm).2; omega) _ _).alloc _
  have upB3 : ∀ {g : Nat} {t' : TypeId} {cs : Array Value}, Blk wr g t' cs → Blk w3 g t' cs := by
    intro g t' cs hg
    have hl := hg.lt
    have e1 : Blk wB g t' cs := by rw [hwB, hwA]; exact (hg.alloc _).alloc _
    have e2 := blk_kept e1 g1 (fun e => by injection e with e; omega)
    rw [hw3, hw2]
    exact (e2.far (by show g ≠ wr.heap.size; omega) _).alloc _
  have hv3 := up3 h.snaps
  have up4 : ∀ {e : TypeId} {sz n : Nat} {y : Value} {xs : List Value}, w3.ownsRow u.heap.size e sz y n xs → e ≠ 38 → w4.ownsRow u.heap.size e sz y n xs := fun hy he => hy.kept g2 (own_apart hy hv3 he)
  have out4 : Blk w4 (u.heap.size + 2) 26 _ := blk_kept (upB3 h.out) g2 (blk_apart (upB3 h.out) hv3 (by decide))
  have up5 : ∀ {e : TypeId} {sz n : Nat} {y : Value} {xs : List Value}, w4.ownsRow u.heap.size e sz y n xs → 26 ≠ e → (w4.setCell ⟨u.heap.size + 2, 6, none⟩ v').ownsRow u.heap.size e sz y n xs := fun hy he => own_away hy (blk_apart out4 hy he) _ _
  have hS := h.len
  have hb4 : Below u.heap.size u w4 := by
    have b1 : Below u.heap.size u wB := by rw [hwB]; exact (by rw [hwA]; exact h.below.alloc hwu _ : Below u.heap.size u wA).alloc (by omega) _
    have b2 := b1.grown g1 b1.size (fun k hk => by injection hk with hk; omega)
    have b3 : Below u.heap.size u w2 := by rw [hw2]; exact b2.setCell hwu _
    have b4 : Below u.heap.size u w3 := by rw [hw3]; exact b3.alloc b3.size _
    exact b4.grown g2 b4.size (fun k hk => (h.snaps.lt k hk).1)
  have oc3 : w3.ownsRow u.heap.size 3 1 vc x.chunks.length (ivs x.chunks) := by
    rw [hw3, hw2]
    exact (own_away o1 (blk_apart h1 o1 (by decide)) _ _).alloc _
  refine ⟨?_, ?_, ?_, up5 (up4 (up3 h.sess) (by decide)) (by decide), up5 (up4 (up3 h.opens) (by decide)) (by decide), ?_, by rw [List.length_append, hS]; rfl, fun k f t' hk hf ht => ?_, hb4.setCell (by simp) _⟩
  · exact (blk_kept (upB3 h.box) g2 (blk_apart (upB3 h.box) hv3 (by decide))).far (by simp) _
  · exact (blk_kept (upB3 h.res) g2 (blk_apart (upB3 h.res) hv3 (by decide))).far (by simp) _
  · simpa using out4.put 6 v'
  · refine up5 ?_ (by decide)
    rw [List.take_add_one, hx, pcells_app _ _ _ _ (by rw [hS, List.length_take]; have := (List.getElem?_eq_some_iff.1 hx).1; omega)]
    simp only [Option.toList_some]
    rw [pcells_one]
    exact o2
  · rcases Nat.lt_or_ge k j with h' | h'
    · rw [List.getElem?_append_left (by omega)] at ht
      exact up5 (up4 (up3 (h.chunks k f t' h' hf ht)) (by decide)) (by decide)
    · obtain rfl : k = j := by omega
      rw [hx] at hf
      cases hf
      rw [List.getElem?_append_right (by omega), hS, Nat.sub_self] at ht
      simp at ht
      subst ht
      rw [← hc]
      exact up5 (up4 oc3 (by decide)) (by decide)

theorem CpInv.mid {u wr w1 : World} {s : Sta} {p : Pls} {v1 v2 v vc : Value} {j : Nat} {S : List (Option Addr × Nat)} {x : Snp} {t : Option Addr × Nat} {ts : Option Addr × Nat} (h : CpInv u wr s p v1 v2 j v S)
    (hc : vc = .slice t.1 x.chunks.length t.2)
    (g1 : ((wr.alloc (.cells (sncells x ts).toArray 38)).alloc (.cells #[] 3)).grownBy w1 (some (wr.heap.size + 1))) :
    Blk w1 wr.heap.size 38 (sncells x ts).toArray ∧ Blk (w1.setCell ⟨wr.heap.size, 2, none⟩ vc) wr.heap.size 38 (sncells x t).toArray ∧ Blk w1 (u.heap.size + 2) 26 #[.int .i64 s.version, .int .i64 s.next, .int .i64 s.keep, .int .i64 s.quota, v1, v2, v] ∧ Blk (w1.setCell ⟨wr.heap.size, 2, none⟩ vc) (u.heap.size + 2) 26 #[.int .i64 s.version, .int .i64 s.next, .int .i64 s.keep, .int .i64 s.quota, v1, v2, v] ∧
    (w1.setCell ⟨wr.heap.size, 2, none⟩ vc).ownsRow u.heap.size 38 5 v j (pcells sncells (s.snaps.take j) S) ∧ Below u.heap.size u (w1.setCell ⟨wr.heap.size, 2, none⟩ vc) := by
  have hwu := h.below.size
  have hl3 := h.out.lt
  obtain ⟨wA, hwA⟩ : ∃ wA : World, wA = wr.alloc (.cells (sncells x ts).toArray 38) := ⟨_, rfl⟩
  obtain ⟨wB, hwB⟩ : ∃ wB : World, wB = wA.alloc (.cells #[] 3) := ⟨_, rfl⟩
  have hA : Blk wA wr.heap.size 38 (sncells x ts).toArray := by rw [hwA]; exact Blk.new _ _ _
  have hsA : wA.heap.size = wr.heap.size + 1 := by rw [hwA]; simp
  have hB : Blk wB wr.heap.size 38 (sncells x ts).toArray := by rw [hwB]; exact hA.alloc _
  rw [← hwA, ← hwB] at g1
  have h1 : Blk w1 wr.heap.size 38 (sncells x ts).toArray := blk_kept hB g1 (by simp)
  have o1 : Blk w1 (u.heap.size + 2) 26 #[.int .i64 s.version, .int .i64 s.next, .int .i64 s.keep, .int .i64 s.quota, v1, v2, v] := blk_kept (by rw [hwB, hwA]; exact (h.out.alloc _).alloc _) g1 (fun e => by injection e with e; omega)
  have b1 : Below u.heap.size u wB := by rw [hwB]; exact (by rw [hwA]; exact h.below.alloc hwu _ : Below u.heap.size u wA).alloc (by omega) _
  have b2 := b1.grown g1 b1.size (fun k hk => by injection hk with hk; omega)
  have e1 : wB.ownsRow u.heap.size 38 5 v j (pcells sncells (s.snaps.take j) S) := by rw [hwB, hwA]; exact (h.snaps.alloc _).alloc _
  have e2 := e1.kept g1 (.inr fun e => by have := (h.snaps.lt _ e).2; omega)
  refine ⟨h1, ?_, o1, o1.far (by show u.heap.size + 2 ≠ wr.heap.size; omega) _, own_away e2 (fun e => by have := (h.snaps.lt _ e.symm).2; omega) _ _, b2.setCell hwu _⟩
  have := h1.put 2 vc
  rw [hc] at this ⊢
  simpa [sncells] using this
/-- A copy that comes back: its rows are the call's own. -/
def StOwn (w : World) (s : Sta) (e : Ending) (w' : World) : Prop := ∃ p, e = .returned (stagg s p) ∧ OwnT w' w.heap.size s p ∧ Below w.heap.size w w'

set_option maxHeartbeats 8000000 in
set_option maxRecDepth 100000 in
theorem copy7_any (s : Sta) (p : Pls) (u : World) (h : RdT u u.heap.size s p) (_ht : Tok s) (hsm : Small s) : Calls Try.prog 26 #[stagg s p] u (StOwn u s) := by
  obtain ⟨i0, hi, hz0, hz1, hz2⟩ := info_parts sess_info
  obtain ⟨j0, hj, jz0, jz1, jz2⟩ := info_parts open_info
  obtain ⟨k0, hk, kz0, kz1, kz2⟩ := info_parts snap_info
  obtain ⟨m0, hm, mz0, mz1, mz2⟩ := info_parts int_info
  have HR := Lib.hid h
  have HSM := Lib.hid hsm
  have hn1 : p.n1 ≤ 100 := by rw [← h.sess.1]; exact hsm.k1
  have hn2 : p.n2 ≤ 100 := by rw [← h.opens.1]; exact hsm.k2
  have hn3 : p.n3 ≤ 100 := by rw [← h.snaps.1]; exact hsm.k3
  obtain ⟨u0, hu0⟩ : ∃ u0 : World, u0 = ((u.alloc (.cells (stblk s p) 26)).alloc (.cells #[.int .i64 0, .int .i64 0, .int .i64 0, .int .i64 0, .slice none 0 0, .slice none 0 0, .slice none 0 0] 26)).alloc (.cells (stblk s p) 26) := ⟨_, rfl⟩
  have hb0 : Below u.heap.size u u0 := by rw [hu0]; exact (((Below.refl _ _).alloc (Nat.le_refl _) _).alloc (by simp) _).alloc (by simp; omega) _
  have hs0 : u0.heap.size = u.heap.size + 3 := by rw [hu0]; simp
  have hbox : Blk u0 u.heap.size 26 (stblk s p) := by rw [hu0]; exact ((Blk.new _ _ _).alloc _).alloc _
  have hres : Blk u0 (u.heap.size + 1) 26 #[.int .i64 0, .int .i64 0, .int .i64 0, .int .i64 0, .slice none 0 0, .slice none 0 0, .slice none 0 0] := by
    rw [hu0]
    have := Blk.new (u.alloc (.cells (stblk s p) 26)) #[.int .i64 0, .int .i64 0, .int .i64 0, .int .i64 0, .slice none 0 0, .slice none 0 0, .slice none 0 0] 26
    simpa using (this.alloc _ : Blk (World.alloc _ (.cells (stblk s p) 26)) _ _ _)
  have hout : Blk u0 (u.heap.size + 2) 26 (stblk s p) := by
    rw [hu0]
    have := Blk.new ((u.alloc (.cells (stblk s p) 26)).alloc (.cells #[.int .i64 0, .int .i64 0, .int .i64 0, .int .i64 0, .slice none 0 0, .slice none 0 0, .slice none 0 0] 26)) (stblk s p) 26
    simpa using this
  have HU := Lib.hid hu0
  clear h hsm hu0
  unfold stagg stblk
  go_enter Try.func26, Try.ntmps26
  go_upto_region 2 with fail
  rw [show ((u.alloc (.cells #[.int .i64 s.version, .int .i64 s.next, .int .i64 s.keep, .int .i64 s.quota, .slice p.a1 p.n1 p.c1, .slice p.a2 p.n2 p.c2, .slice p.a3 p.n3 p.c3] 26)).alloc (.cells #[.int .i64 0, .int .i64 0, .int .i64 0, .int .i64 0, .slice none 0 0, .slice none 0 0, .slice none 0 0] 26)).alloc (.cells #[.int .i64 s.version, .int .i64 s.next, .int .i64 s.keep, .int .i64 s.quota, .slice p.a1 p.n1 p.c1, .slice p.a2 p.n2 p.c2, .slice p.a3 p.n3 p.c3] 26) = u0 from HU.out.symm, show u.heap.size + 1 + 1 = u.heap.size + 2 from rfl]
  obtain ⟨x0, x1, x2, x3, x4, x5, x6⟩ := stblk_cells hbox
  obtain ⟨y0, y1, y2, y3, y4, y5, y6⟩ := stblk_cells hout
  have hbr := hb0.size
  have r1 := (HR.out.below (hb0.alloc hbr (.cells #[] 42))).sess.2
  have om1 : (u0.alloc (.cells #[] 42)).ownsRow u.heap.size 42 4 (.slice (some ⟨u.heap.size + 3, 0, none⟩) 0 0) 0 [] := by rw [← hs0]; exact World.ownsRow_made u0 #[] 0 hbr (by unfold maxLen; omega) rfl
  have HBOX := Lib.hid hbox
  have HRES := Lib.hid hres
  have HOUT := Lib.hid hout
  clear hbox hres hout
  go_wp2_with (at_builtin; refine wpList_append_rd _ rfl (.tmp 7) (.tmp 9) 22 rfl u.heap.size 42 i0 (.agg #[.int .i64 0, .int .i64 0, .int .i64 0, .int .i64 0]) 4 32 Try.underlying22 hi hz0 hz1 hz2 rfl (by decide) _ 0 _ rfl om1 u.heap.size p.a1 p.n1 p.c1 (rowc secells s.sess) rfl r1 (rowc_cell se_one _) (by unfold maxLen; omega) (by omega) (by simp; omega) ?_)
  intro v1 w1 o1 g1
  obtain ⟨A1, q1, rfl, hA1, hq1⟩ := slice_of_own o1
  have G1 : (u0.alloc (.cells #[] 42)).grownBy w1 (some (u.heap.size + 3)) := g1
  have b1 : Below u.heap.size u w1 := (hb0.alloc hbr _).grown G1 (by simp; omega) (fun k hk => by injection hk with hk; omega)
  have out1 := blk_kept (HOUT.out.alloc _) G1 (by simp)
  have box1 := blk_kept (HBOX.out.alloc _) G1 (fun e => by injection e with e; omega)
  have res1 := blk_kept (HRES.out.alloc _) G1 (by simp)
  obtain ⟨w2, hw2⟩ : ∃ w2 : World, w2 = w1.setCell ⟨u.heap.size + 2, 4, none⟩ (.slice A1 p.n1 q1) := ⟨_, rfl⟩
  have out2 : Blk w2 (u.heap.size + 2) 26 #[.int .i64 s.version, .int .i64 s.next, .int .i64 s.keep, .int .i64 s.quota, .slice A1 p.n1 q1, .slice p.a2 p.n2 p.c2, .slice p.a3 p.n3 p.c3] := by rw [hw2]; simpa [stblk] using out1.put 4 (.slice A1 p.n1 q1)
  have box2 : Blk w2 u.heap.size 26 (stblk s p) := by rw [hw2]; exact box1.far (by simp) _
  have res2 : Blk w2 (u.heap.size + 1) 26 #[.int .i64 0, .int .i64 0, .int .i64 0, .int .i64 0, .slice none 0 0, .slice none 0 0, .slice none 0 0] := by rw [hw2]; exact res1.far (by simp) _
  have o2 : w2.ownsRow u.heap.size 42 4 (.slice A1 p.n1 q1) p.n1 (rowc secells s.sess) := by rw [hw2]; exact own_away o1 (blk_apart out1 o1 (by decide)) _ _
  have b2 : Below u.heap.size u w2 := by rw [hw2]; exact b1.setCell (by simp) _
  have z1 := out1.frozen 4
  obtain ⟨y0, y1, y2, y3, y4, y5, y6⟩ := stblk_cells out1
  obtain ⟨x0, x1, x2, x3, x4, x5, x6⟩ := stblk_cells box1
  have OUT2 := Lib.hid out2
  have BOX2 := Lib.hid box2
  have RES2 := Lib.hid res2
  have O2 := Lib.hid o2
  have HW2 := Lib.hid hw2
  clear o1 g1 G1 out1 box1 res1 out2 box2 res2 o2 hw2 om1 r1
  go_upto_region 3 with fail
  rw [← HW2.out]
  obtain ⟨y0, y1, y2, y3, y4, y5, y6⟩ : w2.cell? ⟨u.heap.size + 2, 0, none⟩ = some (.int .i64 s.version) ∧ w2.cell? ⟨u.heap.size + 2, 1, none⟩ = some (.int .i64 s.next) ∧ w2.cell? ⟨u.heap.size + 2, 2, none⟩ = some (.int .i64 s.keep) ∧ w2.cell? ⟨u.heap.size + 2, 3, none⟩ = some (.int .i64 s.quota) ∧
    w2.cell? ⟨u.heap.size + 2, 4, none⟩ = some (.slice A1 p.n1 q1) ∧ w2.cell? ⟨u.heap.size + 2, 5, none⟩ = some (.slice p.a2 p.n2 p.c2) ∧ w2.cell? ⟨u.heap.size + 2, 6, none⟩ = some (.slice p.a3 p.n3 p.c3) :=
    ⟨OUT2.out.cell 0, OUT2.out.cell 1, OUT2.out.cell 2, OUT2.out.cell 3, OUT2.out.cell 4, OUT2.out.cell 5, OUT2.out.cell 6⟩
  obtain ⟨x0, x1, x2, x3, x4, x5, x6⟩ := stblk_cells BOX2.out
  have hbr2 := b2.size
  have r2 := (HR.out.below (b2.alloc hbr2 (.cells #[] 44))).opens.2
  have om2 : (w2.alloc (.cells #[] 44)).ownsRow u.heap.size 44 2 (.slice (some ⟨w2.heap.size, 0, none⟩) 0 0) 0 [] := World.ownsRow_made w2 #[] 0 hbr2 (by unfold maxLen; omega) rfl
  have hl2 := OUT2.out.lt
  have hl2' := BOX2.out.lt
  have x5' : (w2.alloc (.cells #[] 44)).cell? ⟨u.heap.size, 5, none⟩ = some (.slice p.a2 p.n2 p.c2) := (BOX2.out.alloc _).cell 5
  go_wp2_with (at_builtin; refine wpList_append_rd _ rfl (.tmp 12) (.tmp 14) 23 rfl u.heap.size 44 j0 (.agg #[.int .i64 0, .int .i64 0]) 2 16 Try.underlying23 hj jz0 jz1 jz2 rfl (by decide) _ 0 _ rfl om2 u.heap.size p.a2 p.n2 p.c2 (rowc opcells s.opens) rfl r2 (rowc_cell op_one _) (by unfold maxLen; omega) (by omega) (by simp; omega) ?_)
  intro v2 w3 o3 g3
  obtain ⟨A2, q2, rfl, hA2, hq2⟩ := slice_of_own o3
  have G3 : (w2.alloc (.cells #[] 44)).grownBy w3 (some w2.heap.size) := g3
  have b3 : Below u.heap.size u w3 := (b2.alloc hbr2 _).grown G3 (by simp; omega) (fun k hk => by injection hk with hk; omega)
  have out3 := blk_kept (OUT2.out.alloc _) G3 (fun e => by injection e with e; omega)
  have box3 := blk_kept (BOX2.out.alloc _) G3 (fun e => by injection e with e; omega)
  have res3 := blk_kept (RES2.out.alloc _) G3 (fun e => by injection e with e; omega)
  have s3 := (O2.out.alloc (.cells #[] 44)).kept G3 (.inr fun e => by have := (O2.out.lt _ e).2; omega)
  have z2 := out3.frozen 5
  have z3 := (out3.put 5 (.slice A2 p.n2 q2)).frozen 6
  have y3' : (w3.setCell ⟨u.heap.size + 2, 5, none⟩ (.slice A2 p.n2 q2)).cell? ⟨u.heap.size + 2, 6, none⟩ = some (.slice p.a3 p.n3 p.c3) := (out3.put 5 (.slice A2 p.n2 q2)).cell 6
  obtain ⟨c0, c1, c2, c3, c4, c5, c6⟩ : w3.cell? ⟨u.heap.size + 2, 0, none⟩ = some (.int .i64 s.version) ∧ w3.cell? ⟨u.heap.size + 2, 1, none⟩ = some (.int .i64 s.next) ∧ w3.cell? ⟨u.heap.size + 2, 2, none⟩ = some (.int .i64 s.keep) ∧ w3.cell? ⟨u.heap.size + 2, 3, none⟩ = some (.int .i64 s.quota) ∧
    w3.cell? ⟨u.heap.size + 2, 4, none⟩ = some (.slice A1 p.n1 q1) ∧ w3.cell? ⟨u.heap.size + 2, 5, none⟩ = some (.slice p.a2 p.n2 p.c2) ∧ w3.cell? ⟨u.heap.size + 2, 6, none⟩ = some (.slice p.a3 p.n3 p.c3) :=
    ⟨out3.cell 0, out3.cell 1, out3.cell 2, out3.cell 3, out3.cell 4, out3.cell 5, out3.cell 6⟩
  obtain ⟨w4, hw4⟩ : ∃ w4 : World, w4 = (w3.setCell ⟨u.heap.size + 2, 5, none⟩ (.slice A2 p.n2 q2)).setCell ⟨u.heap.size + 2, 6, none⟩ (.slice none 0 0) := ⟨_, rfl⟩
  have hinv : CpInv u w4 s p (.slice A1 p.n1 q1) (.slice A2 p.n2 q2) 0 (.slice none 0 0) [] := by
    have e1 : w4.ownsRow u.heap.size 42 4 (.slice A1 p.n1 q1) p.n1 (rowc secells s.sess) := by
      rw [hw4]
      exact own_away (own_away s3 (blk_apart out3 s3 (by decide)) _ _) (blk_apart out3 s3 (by decide)) _ _
    have e2 : w4.ownsRow u.heap.size 44 2 (.slice A2 p.n2 q2) p.n2 (rowc opcells s.opens) := by
      rw [hw4]
      exact own_away (own_away o3 (blk_apart out3 o3 (by decide)) _ _) (blk_apart out3 o3 (by decide)) _ _
    refine ⟨?_, ?_, ?_, e1, e2, ?_, rfl, fun k f t hk => absurd hk (Nat.not_lt_zero _), ?_⟩
    · rw [hw4]; exact (box3.far (by simp) _).far (by simp) _
    · rw [hw4]; exact (res3.far (by simp) _).far (by simp) _
    · rw [hw4]; simpa using (out3.put 5 (.slice A2 p.n2 q2)).put 6 (.slice none 0 0)
    · simpa [pcells] using World.ownsRow_nil _ _ _ _
    · rw [hw4]; exact (b3.setCell (by simp) _).setCell (by simp) _
  have HINV := Lib.hid hinv
  have HW4 := Lib.hid hw4
  clear o3 g3 G3 out3 box3 res3 s3 hw4 om2 r2 hinv y0 y1 y2 y3 y4 y5 y6 x0 x1 x2 x3 x4 x5 x6
  go_upto_region 5 with fail
  rw [← HW4.out]
  go_wp2
  go_loopw [4] (fun i wr => ∃ (j : Nat) (v : Value) (S : List (Option Addr × Nat)), j ≤ p.n3 ∧ i = .int .i64 (j : Int) ∧ CpInv u wr s p (.slice A1 p.n1 q1) (.slice A2 p.n2 q2) j v S) (fun i _ => p.n3 - (intOf i).toNat)
  case atStart => exact ⟨0, _, _, Nat.zero_le _, rfl, HINV.out⟩
  case round =>
    obtain ⟨j, v, S, hj, rfl, hcp⟩ := hrel
    obtain ⟨A3, q3, rfl, hA3, hq3⟩ := slice_of_own hcp.snaps
    have HC := Lib.hid hcp
    have hb := hcp.below
    have hsz := hb.size
    obtain ⟨x0, x1, x2, x3, x4, x5, x6⟩ := stblk_cells hcp.box
    have hlr := hcp.res.lt
    clear hcp x0 x1 x2 x3 x4 x5
    by_cases hlt : j < p.n3
    · obtain ⟨ad, x, ⟨t1, t2⟩, had, hab, hx, _, g0, g1, g2, g3, g4, e1, e2, e3⟩ := rds_get (HR.out.snaps.below hb) hlt
      have hxn := HSM.out.k4 x (List.mem_of_getElem? hx)
      rw [had] at x6
      simp only [] at g2 e1 e2 e3
      have hba : Below u.heap.size u (wr.alloc (.cells #[.int .i64 x.id, .int .i64 x.set, .slice t1 x.chunks.length t2, .bool x.held, .string (strOf x.tag)] 38)) := hb.alloc hsz _
      have hrd : Rd ((wr.alloc (.cells #[.int .i64 x.id, .int .i64 x.set, .slice t1 x.chunks.length t2, .bool x.held, .string (strOf x.tag)] 38)).alloc (.cells #[] 3)) u.heap.size 1 t1 x.chunks.length (ivs x.chunks) := (e1.alloc hsz _).alloc (by simp; omega) _
      have om : ((wr.alloc (.cells #[.int .i64 x.id, .int .i64 x.set, .slice t1 x.chunks.length t2, .bool x.held, .string (strOf x.tag)] 38)).alloc (.cells #[] 3)).ownsRow u.heap.size 3 1 (.slice (some ⟨wr.heap.size + 1, 0, none⟩) 0 0) 0 [] := by
        have := World.ownsRow_made (e := 3) (size := 1) (base := u.heap.size) (wr.alloc (.cells #[.int .i64 x.id, .int .i64 x.set, .slice t1 x.chunks.length t2, .bool x.held, .string (strOf x.tag)] 38)) #[] 0 (by simp; omega) (by unfold maxLen; omega) rfl
        simpa using this
      clear had
      have HX := Lib.hid hx
      have hji : (j : Int) < (p.n3 : Int) := by omega
      clear hx e1 hba
      go_wp2_with (at_builtin; refine wpList_append_rd _ rfl (.tmp 30) (.tmp 32) 36 rfl u.heap.size 3 m0 (.int .i64 0) 1 8 Try.underlying36 hm mz0 mz1 mz2 rfl (by decide) _ 0 _ rfl om u.heap.size t1 x.chunks.length t2 (ivs x.chunks) rfl hrd (ivs_one _) (by unfold maxLen; omega) (by omega) (by simp; omega) ?_)
      intro vc w5 o5 g5
      obtain ⟨Ac, qc, rfl, hAc, hqc⟩ := slice_of_own o5
      have G5 : ((wr.alloc (.cells (sncells x (t1, t2)).toArray 38)).alloc (.cells #[] 3)).grownBy w5 (some (wr.heap.size + 1)) := g5
      obtain ⟨f1, f2, f3, f4, f5, f6⟩ := HC.out.mid (x := x) (t := (Ac, qc)) rfl G5
      obtain ⟨w6, hw6⟩ : ∃ w6 : World, w6 = w5.setCell ⟨wr.heap.size, 2, none⟩ (.slice Ac x.chunks.length qc) := ⟨_, rfl⟩
      rw [← hw6] at f2 f4 f5 f6
      have k2 := f1.cell 2
      have kz := f1.frozen 2
      simp [sncells] at k2
      have HW6 := Lib.hid hw6
      have O5 := Lib.hid o5
      have GG5 := Lib.hid G5
      obtain ⟨m0', m1, m2, m3, m4⟩ := snblk_cells f2
      have y6 : w6.cell? ⟨u.heap.size + 2, 6, none⟩ = some (.slice A3 j q3) := f4.cell 6
      have hl6 := f4.lt
      have hr6 : Rd (w6.alloc (.cells #[.int .i64 x.id, .int .i64 x.set, .slice Ac x.chunks.length qc, .bool x.held, .string (strOf x.tag)] 38)) (w6.heap.size + 1) 5 (some ⟨w6.heap.size, 0, none⟩) 1 [.int .i64 x.id, .int .i64 x.set, .slice Ac x.chunks.length qc, .bool x.held, .string (strOf x.tag)] := rd_cells w6 _ 38 (size := 5) (n := 1) rfl
      have hlb := f6.size
      have F4 := Lib.hid f4
      have F5 := Lib.hid f5
      clear o5 g5 G5 f2 f3 f4 f5 hw6 om hrd g0 g1 g2 g3 g4
      go_upto_region 10 with fail
      rw [← HW6.out]
      go_wp2_with (at_builtin; refine wpList_append_rd _ rfl (.tmp 36) (.tmp 38) 24 rfl u.heap.size 38 k0 (.agg #[.int .i64 0, .int .i64 0, .slice none 0 0, .bool false, .string (strOf [])]) 5 64 Try.underlying24 hk kz0 kz1 kz2 rfl (by decide) _ j _ rfl (F5.out.alloc _) (w6.heap.size + 1) (some ⟨w6.heap.size, 0, none⟩) 1 1 [.int .i64 x.id, .int .i64 x.set, .slice Ac x.chunks.length qc, .bool x.held, .string (strOf x.tag)] rfl hr6 (by intro e he; simp at he; rcases he with rfl | rfl | rfl | rfl | rfl <;> rfl) (by unfold maxLen; omega) (by omega) (by simp; omega) ?_)
      intro v8 w8 o8 g8
      obtain ⟨A8, q8, rfl, hA8, hq8⟩ := slice_of_own o8
      have out8 := blk_kept (F4.out.alloc (.cells #[.int .i64 x.id, .int .i64 x.set, .slice Ac x.chunks.length qc, .bool x.held, .string (strOf x.tag)] 38)) g8 (blk_apart F4.out F5.out (by decide))
      have z8 := out8.frozen 6
      have y8 : w8.cell? ⟨u.heap.size + 2, 6, none⟩ = some (.slice A3 j q3) := out8.cell 6
      rw [HW6.out] at g8
      have STEP := Lib.hid (HC.out.step HX.out (ts := (t1, t2)) (t := (Ac, qc)) rfl O5.out GG5.out o8 g8)
      clear o8 g8 out8
      go_wp2
      go_roundw
      case rel => exact ⟨j + 1, _, _, by omega, by go_num, STEP.out⟩
      case measure => simp [intOf]; omega
    · obtain rfl : j = p.n3 := by omega
      have hcp := HC.out
      have y := hcp.out
      obtain ⟨c0, c1, c2, c3, c4, c5, c6⟩ : wr.cell? ⟨u.heap.size + 2, 0, none⟩ = some (.int .i64 s.version) ∧ wr.cell? ⟨u.heap.size + 2, 1, none⟩ = some (.int .i64 s.next) ∧ wr.cell? ⟨u.heap.size + 2, 2, none⟩ = some (.int .i64 s.keep) ∧ wr.cell? ⟨u.heap.size + 2, 3, none⟩ = some (.int .i64 s.quota) ∧
        wr.cell? ⟨u.heap.size + 2, 4, none⟩ = some (.slice A1 p.n1 q1) ∧ wr.cell? ⟨u.heap.size + 2, 5, none⟩ = some (.slice A2 p.n2 q2) ∧ wr.cell? ⟨u.heap.size + 2, 6, none⟩ = some (.slice A3 p.n3 q3) := ⟨y.cell 0, y.cell 1, y.cell 2, y.cell 3, y.cell 4, y.cell 5, y.cell 6⟩
      obtain ⟨d0, d1, d2, d3, d4, d5, d6⟩ : wr.cell? ⟨u.heap.size + 1, 0, none⟩ = some (.int .i64 0) ∧ wr.cell? ⟨u.heap.size + 1, 1, none⟩ = some (.int .i64 0) ∧ wr.cell? ⟨u.heap.size + 1, 2, none⟩ = some (.int .i64 0) ∧ wr.cell? ⟨u.heap.size + 1, 3, none⟩ = some (.int .i64 0) ∧
        wr.cell? ⟨u.heap.size + 1, 4, none⟩ = some (.slice none 0 0) ∧ wr.cell? ⟨u.heap.size + 1, 5, none⟩ = some (.slice none 0 0) ∧ wr.cell? ⟨u.heap.size + 1, 6, none⟩ = some (.slice none 0 0) := ⟨hcp.res.cell 0, hcp.res.cell 1, hcp.res.cell 2, hcp.res.cell 3, hcp.res.cell 4, hcp.res.cell 5, hcp.res.cell 6⟩
      have z0 := hcp.res.frozen 0
      have z1 := hcp.res.frozen 1
      have z2 := hcp.res.frozen 2
      have z3 := hcp.res.frozen 3
      have z4 := hcp.res.frozen 4
      have z5 := hcp.res.frozen 5
      have z6 := hcp.res.frozen 6
      clear hcp y
      go_wp2
      (try simp only [Exit.inBlock, Exit.then])
      have hcp := HC.out
      obtain ⟨h1, h2⟩ := blk_set7 hcp.res (.int .i64 s.version) (.int .i64 s.next) (.int .i64 s.keep) (.int .i64 s.quota) (.slice A1 p.n1 q1) (.slice A2 p.n2 q2) (.slice A3 p.n3 q3)
      refine bodyPost_ret (results_cell_row rfl _ _ (u.heap.size + 1) 26 _ (0, 0) _ rfl h1 Try.underlying26 rfl (by kernel_rfl)) rfl ?_
      refine ⟨⟨A1, p.n1, q1, A2, p.n2, q2, A3, p.n3, q3, S⟩, rfl, ⟨?_, ?_, ?_, HR.out.sess.1, HR.out.opens.1, HR.out.snaps.1, hcp.len, fun k f t hf ht => ?_⟩, hb.grown h2 hsz (fun k hk => by injection hk with hk; omega)⟩
      · exact hcp.sess.kept h2 (.inr fun e => blk_apart hcp.res hcp.sess (by decide) e.symm)
      · exact hcp.opens.kept h2 (.inr fun e => blk_apart hcp.res hcp.opens (by decide) e.symm)
      · have := hcp.snaps
        rw [List.take_of_length_le (by have := HR.out.snaps.1; omega)] at this
        exact this.kept h2 (.inr fun e => blk_apart hcp.res this (by decide) e.symm)
      · have := hcp.chunks k f t (by have := (List.getElem?_eq_some_iff.1 hf).1; have := HR.out.snaps.1; omega) hf ht
        exact this.kept h2 (.inr fun e => blk_apart hcp.res this (by decide) e.symm)
end Go.Proofs.Ytdkjdiamekfbdaa
