/-
  What is said of the landed state.Copy: a row of the call's own in which one cell after another is stored to; and the walks of slices.Clone.
-/
import Derived.Test.YtdkjdiamekfbdaaStCopy
import Derived.Deep.DeepCutAuto
namespace Go.Proofs.Ytdkjdiamekfbdaa
open Go.RowKit
open Rf (Snp)
open St (Ses Opn Sta)

theorem own_blk {w : World} {base g n cap sz : Nat} {e : TypeId} {xs : List Value} (h : w.ownsRow base e sz (.slice (some ⟨g, 0, none⟩) n cap) n xs) : ∃ cur : Array Value, Blk w g e cur ∧ base ≤ g ∧ n ≤ cap ∧ cap ≤ maxLen ∧ cur.size = cap * sz ∧ cur.toList.take (n * sz) = xs := by
  rcases h.2 with ⟨h', _⟩ | ⟨g', cap', cur, h', hb, hg, h1, h2, h3, h4⟩
  · simp at h'
  · simp only [Value.slice.injEq, Option.some.injEq, Addr.mk.injEq, and_true, true_and] at h'
    obtain ⟨rfl, rfl⟩ := h'
    exact ⟨cur, hg, hb, h1, h2, h3, h4⟩
/-- A store to a cell of one's own row. -/
theorem own_set {w : World} {base g n cap sz i : Nat} {e : TypeId} {xs : List Value} (h : w.ownsRow base e sz (.slice (some ⟨g, 0, none⟩) n cap) n xs) (u : Value) :
    (w.setCell ⟨g, i, none⟩ u).ownsRow base e sz (.slice (some ⟨g, 0, none⟩) n cap) n (xs.set i u) := by
  obtain ⟨cur, hk, hb, h1, h2, h3, h4⟩ := own_blk h
  refine ⟨by rw [List.length_set]; exact h.1, .inr ⟨g, cap, cur.setIfInBounds i u, rfl, hb, hk.put i u, h1, h2, by rw [Array.size_setIfInBounds]; exact h3, ?_⟩⟩
  rw [Array.toList_setIfInBounds, List.take_set, h4]
theorem pcells_set : ∀ {l : List Snp} {S : List (Option Addr × Nat)} {j : Nat} {x : Snp} {s : Option Addr × Nat} (t : Option Addr × Nat), l[j]? = some x → S[j]? = some s →
    (pcells sncells l S).set (j * 5 + 2) (.slice t.1 x.chunks.length t.2) = pcells sncells l (S.set j t)
  | [], _, _, _, _, _, h, _ => by simp at h
  | _ :: _, [], _, _, _, _, _, h => by simp at h
  | y :: l, r :: S, 0, x, s, t, h1, _ => by
    simp at h1
    subst h1
    simp [pcells, sncells]
  | y :: l, r :: S, j + 1, x, s, t, h1, h2 => by
    rw [List.getElem?_cons_succ] at h1 h2
    rw [List.set_cons_succ, pcells, pcells, ← pcells_set t h1 h2, List.set_append]
    rw [if_neg (by rw [sn_len]; omega), sn_len]
    congr 2
    omega

/-- Where the copying stands behind j snapshots' chunks. -/
structure CcInv (u wr : World) (s : Sta) (p : Pls) (v1 v2 : Value) (A3 : Option Addr) (q3 : Nat) (j : Nat) (S : List (Option Addr × Nat)) : Prop where
  box : Blk wr u.heap.size 26 #[.int .i64 s.version, .int .i64 s.next, .int .i64 s.keep, .int .i64 s.quota, v1, v2, .slice A3 p.n3 q3]
  res : Blk wr (u.heap.size + 1) 26 #[.int .i64 0, .int .i64 0, .int .i64 0, .int .i64 0, .slice none 0 0, .slice none 0 0, .slice none 0 0]
  sess : wr.ownsRow u.heap.size 42 4 v1 p.n1 (rowc secells s.sess)
  opens : wr.ownsRow u.heap.size 44 2 v2 p.n2 (rowc opcells s.opens)
  snaps : wr.ownsRow u.heap.size 38 5 (.slice A3 p.n3 q3) p.n3 (pcells sncells s.snaps S)
  len : S.length = p.n3
  old : ∀ k, j ≤ k → S[k]? = p.S[k]?
  chunks : ∀ (k : Nat) (f : Snp) (t : Option Addr × Nat), k < j → s.snaps[k]? = some f → S[k]? = some t → wr.ownsRow u.heap.size 3 1 (.slice t.1 f.chunks.length t.2) f.chunks.length (ivs f.chunks)
  below : Below u.heap.size u wr

theorem CcInv.mono {u wr w' : World} {s : Sta} {p : Pls} {v1 v2 : Value} {A3 : Option Addr} {q3 j : Nat} {S : List (Option Addr × Nat)} (h : CcInv u wr s p v1 v2 A3 q3 j S) (hb : Below wr.heap.size wr w') : CcInv u w' s p v1 v2 A3 q3 j S :=
  ⟨h.box.below hb h.box.lt, h.res.below hb h.res.lt, own_below h.sess hb, own_below h.opens hb, own_below h.snaps hb, h.len, h.old, fun k f t hk hf ht => own_below (h.chunks k f t hk hf ht) hb, h.below.trans (hb.mono h.below.size)⟩

theorem CcInv.step {u wr w' : World} {s : Sta} {p : Pls} {v1 v2 : Value} {g q3 j : Nat} {S : List (Option Addr × Nat)} {x : Snp} {t : Option Addr × Nat} (h : CcInv u wr s p v1 v2 (some ⟨g, 0, none⟩) q3 j S) (hx : s.snaps[j]? = some x) (hl : s.snaps.length = p.n3)
    (hb : Below wr.heap.size wr w') (ho : w'.ownsRow wr.heap.size 3 1 (.slice t.1 x.chunks.length t.2) x.chunks.length (ivs x.chunks)) :
    CcInv u (w'.setCell ⟨g, j * 5 + 2, none⟩ (.slice t.1 x.chunks.length t.2)) s p v1 v2 (some ⟨g, 0, none⟩) q3 (j + 1) (S.set j t) := by
  have hwu := h.below.size
  have hm := h.mono hb
  have hj := (List.getElem?_eq_some_iff.1 hx).1
  obtain ⟨cur, hk, hbg, _⟩ := own_blk hm.snaps
  have hbx : u.heap.size ≠ g := fun e => blk_apart hm.box hm.snaps (by decide) (by simp [Value.ownBlock, e])
  have hrs : u.heap.size + 1 ≠ g := fun e => blk_apart hm.res hm.snaps (by decide) (by simp [Value.ownBlock, e])
  obtain ⟨s0, hs0⟩ : ∃ s0, S[j]? = some s0 := ⟨S[j]'(by rw [h.len]; omega), List.getElem?_eq_getElem _⟩
  refine ⟨hm.box.far hbx _, hm.res.far hrs _, own_away hm.sess (blk_apart hk hm.sess (by decide)) _ _, own_away hm.opens (blk_apart hk hm.opens (by decide)) _ _, ?_, by rw [List.length_set, h.len], fun k hk' => ?_, fun k f t' hk' hf ht => ?_, hm.below.setCell hbg _⟩
  · rw [← pcells_set t hx hs0]
    exact own_set hm.snaps _
  · rw [List.getElem?_set_ne (by omega)]
    exact h.old k (by omega)
  · rcases Nat.lt_or_ge k j with h' | h'
    · rw [List.getElem?_set_ne (by omega)] at ht
      have hc := hm.chunks k f t' h' hf ht
      exact own_away hc (blk_apart hk hc (by decide)) _ _
    · obtain rfl : k = j := by omega
      rw [hx] at hf
      cases hf
      rw [List.getElem?_set_self (by rw [h.len]; omega)] at ht
      cases ht
      have hc := own_down ho hwu
      exact own_away hc (blk_apart hk hc (by decide)) _ _
/-- The cell that is stored to. -/
theorem CcInv.cell {u wr w' : World} {s : Sta} {p : Pls} {v1 v2 : Value} {g q3 j : Nat} {S : List (Option Addr × Nat)} {x : Snp} (h : CcInv u wr s p v1 v2 (some ⟨g, 0, none⟩) q3 j S) (hx : s.snaps[j]? = some x) (hl : s.snaps.length = p.n3) (hb : Below wr.heap.size wr w') :
    ∃ c, w'.cell? ⟨g, j * 5 + 2, none⟩ = some c ∧ w'.frozen? ⟨g, j * 5 + 2, none⟩ = false := by
  obtain ⟨cur, hk, _, h1, _, h3, _⟩ := own_blk (h.mono hb).snaps
  have hj := (List.getElem?_eq_some_iff.1 hx).1
  have hlt : j * 5 + 2 < cur.size := by
    rw [h3]
    have := Nat.mul_le_mul_right 5 h1
    omega
  exact ⟨cur[j * 5 + 2], (hk.cell _).trans (Array.getElem?_eq_getElem hlt), hk.frozen _⟩
theorem nil_no_se (ad : Addr) (n c : Nat) (w : World) : (binOp BinOp.eql 22 (.slice (some ad) n c) (.slice none 0 0)).run Try.prog w = .ok (.bool false) w := by kernel_rfl
theorem nil_yes_se (c : Nat) (w : World) : (binOp BinOp.eql 22 (.slice none 0 c) (.slice none 0 0)).run Try.prog w = .ok (.bool true) w := by kernel_rfl
set_option maxHeartbeats 1000000 in
set_option maxRecDepth 100000 in
theorem clone_se (A : Option Addr) (n c : Nat) (l : List Ses) (w : World) (h : RdR secells 4 w w.heap.size A n l) (hnc : n ≤ c) (_hmax : c ≤ 9223372036854775807) (hn : n ≤ 1000) :
    Calls Try.prog 45 #[.slice A n c] w fun e w' => ∃ v, e = .returned v ∧ w'.ownsRow w.heap.size 42 4 v n (rowc secells l) ∧ Below w.heap.size w w' := by
  obtain ⟨i0, hi, hz0, hz1, hz2⟩ := info_parts sess_info
  have hlen : l.length = n := h.1
  have hrow := h.2
  have HR := Lib.hid hrow
  have HL := Lib.hid hlen
  cases A with
  | none =>
    obtain rfl : n = 0 := by
      rcases hrow.2 with h0 | ⟨ad, hA, _⟩
      · exact h0
      · cases hA
    obtain rfl : l = [] := List.length_eq_zero_iff.1 hlen
    have hq := nil_yes_se c w
    clear h hlen hrow
    go_enter Try.func45, Try.ntmps45
    go_wp2
    go_ret
    exact ⟨_, rfl, World.ownsRow_nil _ _ _ _, Below.refl _ _⟩
  | some ad =>
    have hq := nil_no_se ad n c w
    clear h hlen hrow
    go_enter Try.func45, Try.ntmps45
    go_wp2_with (at_builtin; refine wpList_append_rd _ rfl (.tmp 5) (.tmp 6) 22 rfl w.heap.size 42 i0 (.agg #[.int .i64 0, .int .i64 0, .int .i64 0, .int .i64 0]) 4 32 Try.underlying22 hi hz0 hz1 hz2 rfl (by decide) _ 0 [] rfl (World.ownsRow_made (e := 42) (size := 4) (base := w.heap.size) w #[] 0 (Nat.le_refl _) (by unfold maxLen; omega) rfl) w.heap.size (some ad) n c (rowc secells l) rfl (HR.out.alloc (Nat.le_refl _) _) (rowc_cell se_one l) (by unfold maxLen; omega) (by omega) (by simp) ?_)
    intro v3 w3 hown3 hg3
    have hb3 : Below w.heap.size w w3 := ((Below.refl _ _).alloc (Nat.le_refl _) _).grown hg3 (by simp) (fun k hk => by simp [Value.ownBlock] at hk; omega)
    have HO3 := Lib.hid hown3
    clear hown3 hg3
    go_wp2
    go_ret
    exact ⟨_, rfl, HO3.out, hb3⟩

theorem nil_no_op (ad : Addr) (n c : Nat) (w : World) : (binOp BinOp.eql 23 (.slice (some ad) n c) (.slice none 0 0)).run Try.prog w = .ok (.bool false) w := by kernel_rfl
theorem nil_yes_op (c : Nat) (w : World) : (binOp BinOp.eql 23 (.slice none 0 c) (.slice none 0 0)).run Try.prog w = .ok (.bool true) w := by kernel_rfl
set_option maxHeartbeats 1000000 in
set_option maxRecDepth 100000 in
theorem clone_op (A : Option Addr) (n c : Nat) (l : List Opn) (w : World) (h : RdR opcells 2 w w.heap.size A n l) (hnc : n ≤ c) (_hmax : c ≤ 9223372036854775807) (hn : n ≤ 1000) :
    Calls Try.prog 46 #[.slice A n c] w fun e w' => ∃ v, e = .returned v ∧ w'.ownsRow w.heap.size 44 2 v n (rowc opcells l) ∧ Below w.heap.size w w' := by
  obtain ⟨i0, hi, hz0, hz1, hz2⟩ := info_parts open_info
  have hlen : l.length = n := h.1
  have hrow := h.2
  have HR := Lib.hid hrow
  have HL := Lib.hid hlen
  cases A with
  | none =>
    obtain rfl : n = 0 := by
      rcases hrow.2 with h0 | ⟨ad, hA, _⟩
      · exact h0
      · cases hA
    obtain rfl : l = [] := List.length_eq_zero_iff.1 hlen
    have hq := nil_yes_op c w
    clear h hlen hrow
    go_enter Try.func46, Try.ntmps46
    go_wp2
    go_ret
    exact ⟨_, rfl, World.ownsRow_nil _ _ _ _, Below.refl _ _⟩
  | some ad =>
    have hq := nil_no_op ad n c w
    clear h hlen hrow
    go_enter Try.func46, Try.ntmps46
    go_wp2_with (at_builtin; refine wpList_append_rd _ rfl (.tmp 5) (.tmp 6) 23 rfl w.heap.size 44 i0 (.agg #[.int .i64 0, .int .i64 0]) 2 16 Try.underlying23 hi hz0 hz1 hz2 rfl (by decide) _ 0 [] rfl (World.ownsRow_made (e := 44) (size := 2) (base := w.heap.size) w #[] 0 (Nat.le_refl _) (by unfold maxLen; omega) rfl) w.heap.size (some ad) n c (rowc opcells l) rfl (HR.out.alloc (Nat.le_refl _) _) (rowc_cell op_one l) (by unfold maxLen; omega) (by omega) (by simp) ?_)
    intro v3 w3 hown3 hg3
    have hb3 : Below w.heap.size w w3 := ((Below.refl _ _).alloc (Nat.le_refl _) _).grown hg3 (by simp) (fun k hk => by simp [Value.ownBlock] at hk; omega)
    have HO3 := Lib.hid hown3
    clear hown3 hg3
    go_wp2
    go_ret
    exact ⟨_, rfl, HO3.out, hb3⟩

theorem nil_no_sn (ad : Addr) (n c : Nat) (w : World) : (binOp BinOp.eql 24 (.slice (some ad) n c) (.slice none 0 0)).run Try.prog w = .ok (.bool false) w := by kernel_rfl
theorem nil_yes_sn (c : Nat) (w : World) : (binOp BinOp.eql 24 (.slice none 0 c) (.slice none 0 0)).run Try.prog w = .ok (.bool true) w := by kernel_rfl
set_option maxHeartbeats 1000000 in
set_option maxRecDepth 100000 in
theorem clone_sn (A : Option Addr) (n c : Nat) (l : List Snp) (S : List (Option Addr × Nat)) (w : World) (h : RdS w w.heap.size A n l S) (hnc : n ≤ c) (_hmax : c ≤ 9223372036854775807) (hn : n ≤ 1000) :
    Calls Try.prog 47 #[.slice A n c] w fun e w' => ∃ v, e = .returned v ∧ w'.ownsRow w.heap.size 38 5 v n (pcells sncells l S) ∧ Below w.heap.size w w' := by
  obtain ⟨i0, hi, hz0, hz1, hz2⟩ := info_parts snap_info
  have hlen : l.length = n := h.1
  have hS : S.length = n := h.2.1
  have hrow := h.2.2.1
  have HR := Lib.hid hrow
  have HL := Lib.hid hlen
  cases A with
  | none =>
    obtain rfl : n = 0 := by
      rcases hrow.2 with h0 | ⟨ad, hA, _⟩
      · exact h0
      · cases hA
    obtain rfl : l = [] := List.length_eq_zero_iff.1 hlen
    obtain rfl : S = [] := List.length_eq_zero_iff.1 hS
    have hq := nil_yes_sn c w
    clear h hlen hrow
    go_enter Try.func47, Try.ntmps47
    go_wp2
    go_ret
    exact ⟨_, rfl, World.ownsRow_nil _ _ _ _, Below.refl _ _⟩
  | some ad =>
    have hq := nil_no_sn ad n c w
    clear h hlen hrow
    go_enter Try.func47, Try.ntmps47
    go_wp2_with (at_builtin; refine wpList_append_rd _ rfl (.tmp 5) (.tmp 6) 24 rfl w.heap.size 38 i0 (.agg #[.int .i64 0, .int .i64 0, .slice none 0 0, .bool false, .string (strOf [])]) 5 64 Try.underlying24 hi hz0 hz1 hz2 rfl (by decide) _ 0 [] rfl (World.ownsRow_made (e := 38) (size := 5) (base := w.heap.size) w #[] 0 (Nat.le_refl _) (by unfold maxLen; omega) rfl) w.heap.size (some ad) n c (pcells sncells l S) rfl (HR.out.alloc (Nat.le_refl _) _) (pcells_cell sn_one l S) (by unfold maxLen; omega) (by omega) (by simp) ?_)
    intro v3 w3 hown3 hg3
    have hb3 : Below w.heap.size w w3 := ((Below.refl _ _).alloc (Nat.le_refl _) _).grown hg3 (by simp) (fun k hk => by simp [Value.ownBlock] at hk; omega)
    have HO3 := Lib.hid hown3
    clear hown3 hg3
    go_wp2
    go_ret
    exact ⟨_, rfl, HO3.out, hb3⟩
end Go.Proofs.Ytdkjdiamekfbdaa
