/-
  The walk of the law FormOwn.
-/
import Derived.Test.YtmcbifdfpaooaaaFoAllW
namespace Go.Proofs.Ytmcbifdfpaooaaa
open Go.RowKit
open Fo (Spc specAll specs inv top check)
open Tl (Fel)

theorem own_cells {w : World} {base : Nat} {e : TypeId} {size g n c : Nat} {xs : List Value} (h : w.ownsRow base e size (.slice (some ⟨g, 0, none⟩) n c) n xs) {k : Nat} (hk : k < xs.length) : (∃ u, w.cell? ⟨g, k, none⟩ = some u) ∧ w.frozen? ⟨g, k, none⟩ = false := by
  refine ⟨⟨xs[k], ?_⟩, ?_⟩
  · have := h.cells (g := g) rfl k xs[k] (by simp [hk])
    have hadd : (⟨g, 0, none⟩ : Addr).add k = ⟨g, k, none⟩ := by unfold Addr.add; split <;> simp_all
    rw [hadd] at this
    exact this
  · rcases h.2 with ⟨h0, _⟩ | ⟨g', cap', cur, hv, _, hgg, _⟩
    · cases h0
    · cases hv
      exact Blk.frozen (t := e) hgg _
/-- A cell of a row of the call's own is written. -/
theorem own_set {w : World} {base : Nat} {e : TypeId} {size g n c k : Nat} {xs : List Value} (h : w.ownsRow base e size (.slice (some ⟨g, 0, none⟩) n c) n xs) (hk : k < n * size) (u : Value) :
    (w.setCell ⟨g, k, none⟩ u).ownsRow base e size (.slice (some ⟨g, 0, none⟩) n c) n (xs.set k u) := by
  refine ⟨by rw [List.length_set]; exact h.1, ?_⟩
  rcases h.2 with ⟨hv, _⟩ | ⟨g', cap, cur, hv, hb, hg, h1, h2, h3, h4⟩
  · cases hv
  · cases hv
    refine .inr ⟨g, c, cur.setIfInBounds k u, rfl, hb, ?_, h1, h2, by simpa using h3, ?_⟩
    · simp [World.setCell, Array.getElem?_modify, hg]
    · rw [← h4]
      simp [List.take_set]
/-- What is told of a kind and a version, in the law's bounds. -/
theorem fo_top : ∀ k : Nat, k < 7 → ∀ v : Nat, v < 3 → top (1 + (k : Int)) (1 + (v : Int)) = ((specs (1 + (k : Int)) (1 + (v : Int))).length : Int) := by decide +kernel

set_option maxHeartbeats 4000000 in
set_option maxRecDepth 100000 in
theorem fown_any (kd vs : Int) (w : World) (k0 : 0 ≤ kd) (k1 : kd ≤ 255) (v0 : 0 ≤ vs) (v1 : vs ≤ 255) :
    Calls Try.prog 7 #[.int .u8 kd, .int .u8 vs] w fun e w' => e = .returned (.bool true) ∧ Below w.heap.size w w' := by
  obtain ⟨i0, hi, hz0, hz1, hz2⟩ := info_parts spec_info
  obtain ⟨k, hk⟩ : ∃ k : Int, 1 + kd % 7 = k := ⟨_, rfl⟩
  obtain ⟨v, hv⟩ : ∃ v : Int, 1 + vs % 3 = v := ⟨_, rfl⟩
  have hkb : 1 ≤ k ∧ k ≤ 7 := by omega
  have hvb : 1 ≤ v ∧ v ≤ 3 := by omega
  have HK := Lib.hid hk
  have HV := Lib.hid hv
  have htop : top k v = ((specs k v).length : Int) := by
    have := fo_top (k - 1).toNat (by omega) (v - 1).toNat (by omega)
    rw [show (1 : Int) + ((k - 1).toNat : Int) = k by omega, show (1 : Int) + ((v - 1).toNat : Int) = v by omega] at this
    exact this
  have h1 := fun w => specs_rec k v w (by omega) (by omega) (by omega) (by omega)
  have h3 := fun w => top_rec k v w (by omega) (by omega) (by omega) (by omega)
  have hL10 := Fo.specs_len k v
  obtain ⟨L, hL⟩ : ∃ L, specs k v = L := ⟨_, rfl⟩
  rw [hL] at h1 htop hL10
  rw [htop] at h3
  obtain ⟨n, hn⟩ : ∃ n, L.length = n := ⟨_, rfl⟩
  rw [hn] at h3 hL10
  have HN := Lib.hid hn
  have H1 := Lib.hid h1
  have H3 := Lib.hid h3
  clear hk hv htop h1 h3 hL hn
  go_enter Try.func7, Try.ntmps7
  go_wp2_with fail
  refine (fshown_any w).mono ?_
  rintro e w1 ⟨rfl, hb1⟩
  have hs1 := hb1.size
  go_wp2_with fail
  rw [HK.out, HV.out]
  refine (H1.out w1).mono ?_
  rintro e w2 ⟨A2, n2, c2, rfl, hc2, hm2, hn2, hown2, hb2⟩
  obtain rfl : n2 = n := by rw [← hn2, HN.out]
  have hbw2 := hb1.trans (hb2.mono hs1)
  have HR2 := Lib.hid (Rd.of_own hown2)
  have HO2 := Lib.hid hown2
  have hs2 := hbw2.size
  clear hown2 hn2 hb1 hb2
  go_wp2_with (at_builtin; refine wpList_append_rd _ rfl (.tmp 23) (.tmp 24) 25 rfl w2.heap.size 33 i0 (.agg #[.int .i64 0, .int .i64 0, .int .i64 0, .bool false, .bool false]) 5 32 Try.underlying25 hi hz0 hz1 hz2 rfl (by decide) _ 0 [] rfl (World.ownsRow_made (e := 33) w2 #[] 0 (Nat.le_refl _) (by unfold maxLen; omega) rfl) w2.heap.size A2 n2 c2 (rowc scells L) rfl (HR2.out.alloc (Nat.le_refl _) _) (rowc_cell scells_one _) (by unfold maxLen; omega) (by omega) (by simp) ?_)
  intro v3 w3 hown3 hg3
  have hb3 : Below w2.heap.size w2 w3 := ((Below.refl _ _).alloc (Nat.le_refl _) _).grown hg3 (by simp) (fun k hk => by simp [Value.ownBlock] at hk; omega)
  have hown3' : w3.ownsRow w2.heap.size 33 5 v3 n2 (rowc scells L) := by simpa using hown3
  have HO3 := Lib.hid hown3'
  have HO23 := Lib.hid (own_below HO2.out hb3)
  have hlt2 := HO2.out.lt
  have hbw3 := hbw2.trans (hb3.mono hs2)
  obtain ⟨A3, c3, rfl, hc3, hm3⟩ := slice_of_own hown3'
  clear hown3 hg3 hown3' HR2 hb3
  go_wp2
  go_loopw [10] (fun i wr => ∃ (j : Nat) (xs : List Value), j ≤ n2 ∧ i = .int .i64 (j : Int) ∧ wr.ownsRow w1.heap.size 33 5 (.slice A2 n2 c2) n2 xs ∧ wr.ownsRow w2.heap.size 33 5 (.slice A3 n2 c3) n2 (rowc scells L) ∧ Below w.heap.size w wr ∧ w3.heap.size ≤ wr.heap.size) (fun i _ => n2 - (intOf i).toNat)
  case atStart => exact ⟨0, _, Nat.zero_le _, rfl, HO23.out, HO3.out, hbw3, Nat.le_refl _⟩
  case round =>
    obtain ⟨j, xs, hj, rfl, hownl, hownw, hb, hsz⟩ := hrel
    have HOL := Lib.hid hownl
    have HOW := Lib.hid hownw
    clear hownl hownw
    by_cases hlt : j < n2
    · obtain ⟨g, cap, hv, hbg, hgl⟩ := HOL.out.form (by omega)
      cases hv
      have hxl := HOL.out.1
      obtain ⟨⟨u0, y0⟩, z0⟩ := own_cells HOL.out (k := j * 5) (by omega)
      obtain ⟨⟨u1, y1⟩, z1⟩ := own_cells HOL.out (k := j * 5 + 1) (by omega)
      obtain ⟨⟨u2, y2⟩, z2⟩ := own_cells HOL.out (k := j * 5 + 2) (by omega)
      obtain ⟨⟨u3, y3⟩, z3⟩ := own_cells HOL.out (k := j * 5 + 3) (by omega)
      obtain ⟨⟨u4, y4⟩, z4⟩ := own_cells HOL.out (k := j * 5 + 4) (by omega)
      have HXL := Lib.hid hxl
      have hgw : (Value.slice A3 n2 c3).ownBlock ≠ some g := fun h => by
        have h1 := (HOW.out.lt g h).1
        have h2 := (hlt2 g (by simp [Value.ownBlock])).2
        omega
      have r1 := own_set (own_set (own_set (own_set (own_set HOL.out (k := j * 5) (by omega) (.int .i64 99)) (k := j * 5 + 1) (by omega) (.int .i64 0)) (k := j * 5 + 2) (by omega) (.int .i64 0)) (k := j * 5 + 3) (by omega) (.bool false)) (k := j * 5 + 4) (by omega) (.bool true)
      have r2 := ownsRow_setCell_other (ownsRow_setCell_other (ownsRow_setCell_other (ownsRow_setCell_other (ownsRow_setCell_other HOW.out (a := ⟨g, j * 5, none⟩) hgw (.int .i64 99)) (a := ⟨g, j * 5 + 1, none⟩) hgw (.int .i64 0)) (a := ⟨g, j * 5 + 2, none⟩) hgw (.int .i64 0)) (a := ⟨g, j * 5 + 3, none⟩) hgw (.bool false)) (a := ⟨g, j * 5 + 4, none⟩) hgw (.bool true)
      have hbg2 : w.heap.size ≤ g := by omega
      have r3 := ((((hb.setCell (p := ⟨g, j * 5, none⟩) hbg2 (.int .i64 99)).setCell (p := ⟨g, j * 5 + 1, none⟩) hbg2 (.int .i64 0)).setCell (p := ⟨g, j * 5 + 2, none⟩) hbg2 (.int .i64 0)).setCell (p := ⟨g, j * 5 + 3, none⟩) hbg2 (.bool false)).setCell (p := ⟨g, j * 5 + 4, none⟩) hbg2 (.bool true)
      have R1 := Lib.hid r1
      have R2 := Lib.hid r2
      have R3 := Lib.hid r3
      clear hxl r1 r2 r3
      go_wp2
      go_roundw
      case rel => exact ⟨j + 1, _, by omega, by go_num, R1.out, R2.out, R3.out, by simpa [World.setCell] using hsz⟩
      case measure => simp [intOf]; omega
    · obtain rfl : j = n2 := by omega
      have HRW := Lib.hid (specs_get (own_base' HOW.out (Nat.zero_le _)) HN.out)
      have hsw := hb.size
      clear HOW HOL HO2 HO3 HO23
      go_wp2_with fail
      refine (H1.out wr).mono ?_
      rintro e w4 ⟨A4, n4, c4, rfl, hc4, hm4, hn4, hown4, hb4⟩
      have hbw4 := hb.trans (hb4.mono hsw)
      have HR4 := Lib.hid (specs_get hown4 hn4)
      replace HRW := Lib.hid ((HRW.out.below hb4).more hb4.size)
      clear hown4 hn4 hb4
      go_wp2_with fail
      refine (rsame_any A4 A3 n4 _ c4 c3 L L w4 HR4.out HRW.out hc4 hm4 hc3 hm3).mono ?_
      rintro e w5 ⟨d, rfl, hd, hb5⟩
      obtain rfl : d = true := hd.2 rfl
      have hbw5 := hbw4.trans (hb5.mono hbw4.size)
      clear hd hb5 HR4 HRW
      go_wp2_with fail
      refine (H3.out w5).mono ?_
      rintro e w6 ⟨rfl, hb6⟩
      have hbw6 := hbw5.trans (hb6.mono hbw5.size)
      go_wp2
      go_ret
      exact ⟨rfl, hbw6⟩
end Go.Proofs.Ytmcbifdfpaooaaa
