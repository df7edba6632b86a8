/-
  Several texts in one: FoRef, FoSpecs, FoEq, FoTop, FoOne.
-/
import Derived.Test.YtkagonijkalicaaMgC
import Derived.Test.YtkagonijkalicaaMgA
import Derived.Deep.DeepCutAuto
import Derived.BigQuiet
import Derived.Test.YtkagonijkalicaaMgE
set_option linter.unusedVariables false
set_option linter.unusedSimpArgs false

/-
  The walks of the reference of layer 4: which fields a record has.
-/
namespace Go.Proofs.Ytkagonijkalicaa
open Go.RowKit
open Fo (Spc specAll specs inv top)

/-- A spec's cells. -/
def scells (s : Spc) : List Value := [.int .i64 s.num, .int .i64 s.wire, .int .i64 s.since, .bool s.need, .bool s.many]
theorem scells_len (s : Spc) : (scells s).length = 5 := rfl
theorem scells_one (s : Spc) : ∀ u ∈ scells s, u.oneCell' = true := by
  intro u hu
  simp [scells] at hu
  rcases hu with rfl | rfl | rfl | rfl | rfl <;> rfl
theorem spec_info : (Try.prog.info? 93).map (fun i => (i.zero, i.size, i.bytes)) = some (some (.agg #[.int .i64 0, .int .i64 0, .int .i64 0, .bool false, .bool false]), 5, 32) := by kernel_rfl
/-- What comes back is a row of specs in memory of the call's own. -/
def NewSpecs (w : World) (l : List Spc) (e : Ending) (w' : World) : Prop := ∃ (A : Option Addr) (n c : Nat), e = .returned (.slice A n c) ∧ n ≤ c ∧ c ≤ 9223372036854775807 ∧ l.length = n ∧ w'.ownsRow w.heap.size 93 5 (.slice A n c) n (rowc scells l) ∧ Below w.heap.size w w'

set_option maxRecDepth 100000 in
theorem number_any (n s : Int) (nd : Bool) (w : World) : Calls Try.prog 94 #[.int .i64 n, .int .i64 s, .bool nd] w fun e w' => e = .returned (.agg #[.int .i64 n, .int .i64 0, .int .i64 s, .bool nd, .bool false]) ∧ Below w.heap.size w w' := by
  go_enter Try.func94, Try.ntmps94
  go_wp2
  (try simp only [Exit.inBlock, Exit.then])
  exact bodyPost_ret (results_cell_row rfl _ _ w.heap.size 93 #[.int .i64 n, .int .i64 0, .int .i64 s, .bool nd, .bool false] (0, 0) _ rfl (heap_alloc_new w _) Try.underlying93 rfl (by kernel_rfl)) rfl ⟨rfl, (Below.refl _ _).alloc (Nat.le_refl _) _⟩
set_option maxRecDepth 100000 in
theorem bytes_any (n s : Int) (nd m : Bool) (w : World) : Calls Try.prog 95 #[.int .i64 n, .int .i64 s, .bool nd, .bool m] w fun e w' => e = .returned (.agg #[.int .i64 n, .int .i64 2, .int .i64 s, .bool nd, .bool m]) ∧ Below w.heap.size w w' := by
  go_enter Try.func95, Try.ntmps95
  go_wp2
  (try simp only [Exit.inBlock, Exit.then])
  exact bodyPost_ret (results_cell_row rfl _ _ w.heap.size 93 #[.int .i64 n, .int .i64 2, .int .i64 s, .bool nd, .bool m] (0, 0) _ rfl (heap_alloc_new w _) Try.underlying93 rfl (by kernel_rfl)) rfl ⟨rfl, (Below.refl _ _).alloc (Nat.le_refl _) _⟩

/-- A row of specs that is written out behind calls. -/
theorem lit_specs {w wx : World} {l : List Spc} {n : Nat} {cs : Array Value} (hb : Below w.heap.size w wx) (hl : l.length = n) (hn : n ≤ 10) (hcs : (rowc scells l).toArray = cs) :
    NewSpecs w l (.returned (.slice (some ⟨wx.heap.size, 0, none⟩) n n)) (wx.alloc (.cells cs 93)) := by
  refine ⟨_, n, n, rfl, Nat.le_refl _, by omega, hl, ?_, hb.alloc hb.size _⟩
  rw [← hcs]
  exact own_lit (by rw [rowc_len scells_len, hl]) (by unfold maxLen; omega) hb.size

set_option maxHeartbeats 4000000 in
set_option maxRecDepth 100000 in
theorem rall_any (k : Int) (w : World) (k0 : -9223372036854775808 ≤ k) (k1 : k ≤ 9223372036854775807) : Calls Try.prog 84 #[.int .i64 k] w (NewSpecs w (specAll k)) := by
  by_cases h1 : k = 1
  · have hs : specAll k = specAll 1 := by rw [h1]
    rw [hs]
    have q1 : (k == 1) = true := by rw [h1]; rfl
    clear hs h1
    go_enter Try.func84, Try.ntmps84
    have hb0 : Below w.heap.size w w := Below.refl _ _
    go_wp2_with fail
    refine (number_any _ _ _ _).mono ?_
    rintro e w1 ⟨rfl, hc⟩
    have hb1 := hb0.trans (hc.mono hb0.size)
    clear hc
    go_wp2_with fail
    refine (number_any _ _ _ _).mono ?_
    rintro e w2 ⟨rfl, hc⟩
    have hb2 := hb1.trans (hc.mono hb1.size)
    clear hc
    go_wp2_with fail
    refine (number_any _ _ _ _).mono ?_
    rintro e w3 ⟨rfl, hc⟩
    have hb3 := hb2.trans (hc.mono hb2.size)
    clear hc
    go_wp2_with fail
    refine (number_any _ _ _ _).mono ?_
    rintro e w4 ⟨rfl, hc⟩
    have hb4 := hb3.trans (hc.mono hb3.size)
    clear hc
    go_wp2_with fail
    refine (number_any _ _ _ _).mono ?_
    rintro e w5 ⟨rfl, hc⟩
    have hb5 := hb4.trans (hc.mono hb4.size)
    clear hc
    go_wp2_with fail
    refine (number_any _ _ _ _).mono ?_
    rintro e w6 ⟨rfl, hc⟩
    have hb6 := hb5.trans (hc.mono hb5.size)
    clear hc
    go_wp2_with fail
    refine (bytes_any _ _ _ _ _).mono ?_
    rintro e w7 ⟨rfl, hc⟩
    have hb7 := hb6.trans (hc.mono hb6.size)
    clear hc
    go_wp2_with fail
    refine (bytes_any _ _ _ _ _).mono ?_
    rintro e w8 ⟨rfl, hc⟩
    have hb8 := hb7.trans (hc.mono hb7.size)
    clear hc
    go_wp2
    go_ret
    exact lit_specs (n := 8) hb8 rfl (by omega) rfl
  · by_cases h2 : k = 2
    · have hs : specAll k = specAll 2 := by rw [h2]
      rw [hs]
      have q2 : (k == 2) = true := by rw [h2]; rfl
      have q1 : (k == 1) = false := by rw [h2]; rfl
      clear hs h2 h1
      go_enter Try.func84, Try.ntmps84
      have hb0 : Below w.heap.size w w := Below.refl _ _
      go_wp2_with fail
      refine (number_any _ _ _ _).mono ?_
      rintro e w1 ⟨rfl, hc⟩
      have hb1 := hb0.trans (hc.mono hb0.size)
      clear hc
      go_wp2_with fail
      refine (number_any _ _ _ _).mono ?_
      rintro e w2 ⟨rfl, hc⟩
      have hb2 := hb1.trans (hc.mono hb1.size)
      clear hc
      go_wp2_with fail
      refine (bytes_any _ _ _ _ _).mono ?_
      rintro e w3 ⟨rfl, hc⟩
      have hb3 := hb2.trans (hc.mono hb2.size)
      clear hc
      go_wp2_with fail
      refine (number_any _ _ _ _).mono ?_
      rintro e w4 ⟨rfl, hc⟩
      have hb4 := hb3.trans (hc.mono hb3.size)
      clear hc
      go_wp2_with fail
      refine (bytes_any _ _ _ _ _).mono ?_
      rintro e w5 ⟨rfl, hc⟩
      have hb5 := hb4.trans (hc.mono hb4.size)
      clear hc
      go_wp2
      go_ret
      exact lit_specs (n := 5) hb5 rfl (by omega) rfl
    · by_cases h3 : k = 3
      · have hs : specAll k = specAll 3 := by rw [h3]
        rw [hs]
        have q3 : (k == 3) = true := by rw [h3]; rfl
        have q1 : (k == 1) = false := by rw [h3]; rfl
        have q2 : (k == 2) = false := by rw [h3]; rfl
        clear hs h3 h1 h2
        go_enter Try.func84, Try.ntmps84
        have hb0 : Below w.heap.size w w := Below.refl _ _
        go_wp2_with fail
        refine (number_any _ _ _ _).mono ?_
        rintro e w1 ⟨rfl, hc⟩
        have hb1 := hb0.trans (hc.mono hb0.size)
        clear hc
        go_wp2_with fail
        refine (number_any _ _ _ _).mono ?_
        rintro e w2 ⟨rfl, hc⟩
        have hb2 := hb1.trans (hc.mono hb1.size)
        clear hc
        go_wp2
        go_ret
        exact lit_specs (n := 2) hb2 rfl (by omega) rfl
      · by_cases h4 : k = 4
        · have hs : specAll k = specAll 4 := by rw [h4]
          rw [hs]
          have q4 : (k == 4) = true := by rw [h4]; rfl
          have q1 : (k == 1) = false := by rw [h4]; rfl
          have q2 : (k == 2) = false := by rw [h4]; rfl
          have q3 : (k == 3) = false := by rw [h4]; rfl
          clear hs h4 h1 h2 h3
          go_enter Try.func84, Try.ntmps84
          have hb0 : Below w.heap.size w w := Below.refl _ _
          go_wp2_with fail
          refine (number_any _ _ _ _).mono ?_
          rintro e w1 ⟨rfl, hc⟩
          have hb1 := hb0.trans (hc.mono hb0.size)
          clear hc
          go_wp2_with fail
          refine (number_any _ _ _ _).mono ?_
          rintro e w2 ⟨rfl, hc⟩
          have hb2 := hb1.trans (hc.mono hb1.size)
          clear hc
          go_wp2_with fail
          refine (number_any _ _ _ _).mono ?_
          rintro e w3 ⟨rfl, hc⟩
          have hb3 := hb2.trans (hc.mono hb2.size)
          clear hc
          go_wp2_with fail
          refine (number_any _ _ _ _).mono ?_
          rintro e w4 ⟨rfl, hc⟩
          have hb4 := hb3.trans (hc.mono hb3.size)
          clear hc
          go_wp2
          go_ret
          exact lit_specs (n := 4) hb4 rfl (by omega) rfl
        · by_cases h5 : k = 5
          · have hs : specAll k = specAll 5 := by rw [h5]
            rw [hs]
            have q5 : (k == 5) = true := by rw [h5]; rfl
            have q1 : (k == 1) = false := by rw [h5]; rfl
            have q2 : (k == 2) = false := by rw [h5]; rfl
            have q3 : (k == 3) = false := by rw [h5]; rfl
            have q4 : (k == 4) = false := by rw [h5]; rfl
            clear hs h5 h1 h2 h3 h4
            go_enter Try.func84, Try.ntmps84
            have hb0 : Below w.heap.size w w := Below.refl _ _
            go_wp2_with fail
            refine (number_any _ _ _ _).mono ?_
            rintro e w1 ⟨rfl, hc⟩
            have hb1 := hb0.trans (hc.mono hb0.size)
            clear hc
            go_wp2_with fail
            refine (number_any _ _ _ _).mono ?_
            rintro e w2 ⟨rfl, hc⟩
            have hb2 := hb1.trans (hc.mono hb1.size)
            clear hc
            go_wp2_with fail
            refine (number_any _ _ _ _).mono ?_
            rintro e w3 ⟨rfl, hc⟩
            have hb3 := hb2.trans (hc.mono hb2.size)
            clear hc
            go_wp2_with fail
            refine (bytes_any _ _ _ _ _).mono ?_
            rintro e w4 ⟨rfl, hc⟩
            have hb4 := hb3.trans (hc.mono hb3.size)
            clear hc
            go_wp2_with fail
            refine (bytes_any _ _ _ _ _).mono ?_
            rintro e w5 ⟨rfl, hc⟩
            have hb5 := hb4.trans (hc.mono hb4.size)
            clear hc
            go_wp2_with fail
            refine (bytes_any _ _ _ _ _).mono ?_
            rintro e w6 ⟨rfl, hc⟩
            have hb6 := hb5.trans (hc.mono hb5.size)
            clear hc
            go_wp2_with fail
            refine (number_any _ _ _ _).mono ?_
            rintro e w7 ⟨rfl, hc⟩
            have hb7 := hb6.trans (hc.mono hb6.size)
            clear hc
            go_wp2
            go_ret
            exact lit_specs (n := 7) hb7 rfl (by omega) rfl
          · by_cases h6 : k = 6
            · have hs : specAll k = specAll 6 := by rw [h6]
              rw [hs]
              have q6 : (k == 6) = true := by rw [h6]; rfl
              have q1 : (k == 1) = false := by rw [h6]; rfl
              have q2 : (k == 2) = false := by rw [h6]; rfl
              have q3 : (k == 3) = false := by rw [h6]; rfl
              have q4 : (k == 4) = false := by rw [h6]; rfl
              have q5 : (k == 5) = false := by rw [h6]; rfl
              clear hs h6 h1 h2 h3 h4 h5
              go_enter Try.func84, Try.ntmps84
              have hb0 : Below w.heap.size w w := Below.refl _ _
              go_wp2_with fail
              refine (number_any _ _ _ _).mono ?_
              rintro e w1 ⟨rfl, hc⟩
              have hb1 := hb0.trans (hc.mono hb0.size)
              clear hc
              go_wp2_with fail
              refine (number_any _ _ _ _).mono ?_
              rintro e w2 ⟨rfl, hc⟩
              have hb2 := hb1.trans (hc.mono hb1.size)
              clear hc
              go_wp2_with fail
              refine (number_any _ _ _ _).mono ?_
              rintro e w3 ⟨rfl, hc⟩
              have hb3 := hb2.trans (hc.mono hb2.size)
              clear hc
              go_wp2_with fail
              refine (number_any _ _ _ _).mono ?_
              rintro e w4 ⟨rfl, hc⟩
              have hb4 := hb3.trans (hc.mono hb3.size)
              clear hc
              go_wp2_with fail
              refine (number_any _ _ _ _).mono ?_
              rintro e w5 ⟨rfl, hc⟩
              have hb5 := hb4.trans (hc.mono hb4.size)
              clear hc
              go_wp2_with fail
              refine (number_any _ _ _ _).mono ?_
              rintro e w6 ⟨rfl, hc⟩
              have hb6 := hb5.trans (hc.mono hb5.size)
              clear hc
              go_wp2_with fail
              refine (number_any _ _ _ _).mono ?_
              rintro e w7 ⟨rfl, hc⟩
              have hb7 := hb6.trans (hc.mono hb6.size)
              clear hc
              go_wp2_with fail
              refine (number_any _ _ _ _).mono ?_
              rintro e w8 ⟨rfl, hc⟩
              have hb8 := hb7.trans (hc.mono hb7.size)
              clear hc
              go_wp2_with fail
              refine (number_any _ _ _ _).mono ?_
              rintro e w9 ⟨rfl, hc⟩
              have hb9 := hb8.trans (hc.mono hb8.size)
              clear hc
              go_wp2_with fail
              refine (bytes_any _ _ _ _ _).mono ?_
              rintro e w10 ⟨rfl, hc⟩
              have hb10 := hb9.trans (hc.mono hb9.size)
              clear hc
              go_wp2
              go_ret
              exact lit_specs (n := 10) hb10 rfl (by omega) rfl
            · by_cases h7 : k = 7
              · have hs : specAll k = specAll 7 := by rw [h7]
                rw [hs]
                have q7 : (k == 7) = true := by rw [h7]; rfl
                have q1 : (k == 1) = false := by rw [h7]; rfl
                have q2 : (k == 2) = false := by rw [h7]; rfl
                have q3 : (k == 3) = false := by rw [h7]; rfl
                have q4 : (k == 4) = false := by rw [h7]; rfl
                have q5 : (k == 5) = false := by rw [h7]; rfl
                have q6 : (k == 6) = false := by rw [h7]; rfl
                clear hs h7 h1 h2 h3 h4 h5 h6
                go_enter Try.func84, Try.ntmps84
                have hb0 : Below w.heap.size w w := Below.refl _ _
                go_wp2_with fail
                refine (number_any _ _ _ _).mono ?_
                rintro e w1 ⟨rfl, hc⟩
                have hb1 := hb0.trans (hc.mono hb0.size)
                clear hc
                go_wp2_with fail
                refine (bytes_any _ _ _ _ _).mono ?_
                rintro e w2 ⟨rfl, hc⟩
                have hb2 := hb1.trans (hc.mono hb1.size)
                clear hc
                go_wp2
                go_ret
                exact lit_specs (n := 2) hb2 rfl (by omega) rfl
              · have hs : specAll k = [] := by unfold specAll; rw [if_neg h1, if_neg h2, if_neg h3, if_neg h4, if_neg h5, if_neg h6, if_neg h7]
                rw [hs]
                have q1 : (k == 1) = false := by rw [beq_eq_false_iff_ne]; exact h1
                have q2 : (k == 2) = false := by rw [beq_eq_false_iff_ne]; exact h2
                have q3 : (k == 3) = false := by rw [beq_eq_false_iff_ne]; exact h3
                have q4 : (k == 4) = false := by rw [beq_eq_false_iff_ne]; exact h4
                have q5 : (k == 5) = false := by rw [beq_eq_false_iff_ne]; exact h5
                have q6 : (k == 6) = false := by rw [beq_eq_false_iff_ne]; exact h6
                have q7 : (k == 7) = false := by rw [beq_eq_false_iff_ne]; exact h7
                clear hs h1 h2 h3 h4 h5 h6 h7
                go_enter Try.func84, Try.ntmps84
                go_wp2
                go_ret
                exact ⟨none, 0, 0, rfl, Nat.le_refl _, by omega, rfl, World.ownsRow_nil _ _ _ _, Below.refl _ _⟩
end Go.Proofs.Ytkagonijkalicaa

/-
  The walks of the reference of layer 4: Specs, Top, Same.
-/
namespace Go.Proofs.Ytkagonijkalicaa
open Go.RowKit
open Fo (Spc specAll specs inv top)

theorem own_base' {w : World} {base base' : Nat} {e : TypeId} {size n : Nat} {v : Value} {xs : List Value} (h : w.ownsRow base e size v n xs) (hb : base' ≤ base) : w.ownsRow base' e size v n xs := by
  refine ⟨h.1, ?_⟩
  rcases h.2 with hn | ⟨g, cap, cur, hv, hbg, rest⟩
  · exact .inl hn
  · exact .inr ⟨g, cap, cur, hv, Nat.le_trans hb hbg, rest⟩
/-- The cells of the k-th spec of a row, as a load spells them. -/
theorem spec_at {w : World} {B n : Nat} {A : Option Addr} {l : List Spc} (h : RdR scells 5 w B A n l) {k : Nat} (hk : k < n) : ∃ (ad : Addr) (s : Spc), A = some ad ∧ ad.block < B ∧ l[k]? = some s ∧ w.cell? (ad.add (k * 5)) = some (.int .i64 s.num) ∧ w.cell? ⟨(ad.add (k * 5)).block, (ad.add (k * 5)).off + 1, none⟩ = some (.int .i64 s.wire) ∧
    w.cell? ⟨(ad.add (k * 5)).block, (ad.add (k * 5)).off + 2, none⟩ = some (.int .i64 s.since) ∧ w.cell? ⟨(ad.add (k * 5)).block, (ad.add (k * 5)).off + 3, none⟩ = some (.bool s.need) ∧ w.cell? ⟨(ad.add (k * 5)).block, (ad.add (k * 5)).off + 4, none⟩ = some (.bool s.many) := by
  obtain ⟨ad, s, hA, hb, hs, hc⟩ := h.get scells_len hk
  refine ⟨ad, s, hA, hb, hs, hc 0 _ rfl, ?_, ?_, ?_, ?_⟩
  · rw [add_spell' _ _ _ (by omega)]; exact hc 1 _ rfl
  · rw [add_spell' _ _ _ (by omega)]; exact hc 2 _ rfl
  · rw [add_spell' _ _ _ (by omega)]; exact hc 3 _ rfl
  · rw [add_spell' _ _ _ (by omega)]; exact hc 4 _ rfl

set_option maxHeartbeats 4000000 in
set_option maxRecDepth 100000 in
theorem rspecs_any (k v : Int) (w : World) (k0 : -9223372036854775808 ≤ k) (k1 : k ≤ 9223372036854775807) (v0 : -9223372036854775808 ≤ v) (v1 : v ≤ 9223372036854775807) : Calls Try.prog 69 #[.int .i64 k, .int .i64 v] w (NewSpecs w (specs k v)) := by
  obtain ⟨i0, hi, hz0, hz1, hz2⟩ := info_parts spec_info
  have hlen := Fo.specAll_len k
  have hall := fun s hs => Fo.specAll_mem k s hs
  have hsp : specs k v = (specAll k).filter (inv v) := rfl
  have hca := fun w' => rall_any k w' k0 k1
  obtain ⟨L, hL⟩ : ∃ L, specAll k = L := ⟨_, rfl⟩
  rw [hL] at hlen hall hsp
  simp only [hL] at hca
  rw [hsp]
  have HCA := Lib.hid hca
  have HALL := Lib.hid hall
  clear hca hL hsp hall
  obtain ⟨w0, hw0⟩ : ∃ w0 : World, w0 = w.alloc (.cells #[] 93) := ⟨_, rfl⟩
  have hown0 : w0.ownsRow w.heap.size 93 5 (.slice (some ⟨w.heap.size, 0, none⟩) 0 0) 0 [] := by rw [hw0]; exact World.ownsRow_made w #[] 0 (Nat.le_refl _) (by unfold maxLen; omega) rfl
  have hb0 : Below w.heap.size w w0 := by rw [hw0]; exact (Below.refl _ _).alloc (Nat.le_refl _) _
  have hs0 : w.heap.size < w0.heap.size := by rw [hw0]; simp
  have HW0 := Lib.hid hw0
  clear hw0
  go_enter Try.func69, Try.ntmps69
  go_wp2_with fail
  rw [← HW0.out]
  refine (HCA.out w0).mono ?_
  rintro e w1 ⟨A, n, c, rfl, hnc, hmax, hn, hown, hb1⟩
  have hown1 := own_below hown0 hb1
  have hne1 : (Value.slice A n c).ownBlock ≠ some w.heap.size := fun h => by have := (hown.lt _ h).1; omega
  have HO := Lib.hid (own_base' hown (Nat.le_of_lt hs0))
  have HO1 := Lib.hid hown1
  have HN := Lib.hid hn
  have HNE := Lib.hid hne1
  have hbw1 := hb0.trans (hb1.mono (Nat.le_of_lt hs0))
  have hn10 : n ≤ 10 := by omega
  clear hown hown0 hown1 hn hne1 hb1 hb0 HCA HW0
  go_wp2
  go_loopw [5, 7] (fun o i wr => ∃ (j m co g : Nat) (F : List Spc), j ≤ n ∧ i = .int .i64 (j : Int) ∧ m ≤ j ∧ o = .slice (some ⟨g, 0, none⟩) m co ∧ w.heap.size ≤ g ∧ wr.ownsRow w.heap.size 93 5 (.slice (some ⟨g, 0, none⟩) m co) m (rowc scells F) ∧ F.length = m ∧ (L.take j).filter (inv v) = F ∧
      wr.ownsRow w.heap.size 93 5 (.slice A n c) n (rowc scells L) ∧ (Value.slice A n c).ownBlock ≠ some g ∧ Below w.heap.size w wr) (fun _ i _ => n - (intOf i).toNat)
  case atStart => exact ⟨0, 0, 0, w.heap.size, [], Nat.zero_le _, rfl, Nat.le_refl _, rfl, Nat.le_refl _, HO1.out, rfl, rfl, HO.out, HNE.out, hbw1⟩
  case round =>
    obtain ⟨j, m, co, g, F, hj, rfl, hmj, rfl, hwg, hown, hF, hfl, hsrc, hne, hb⟩ := hrel
    have HOW := Lib.hid hown
    have HF := Lib.hid hF
    have HFL := Lib.hid hfl
    have HSR := Lib.hid hsrc
    have HNG := Lib.hid hne
    have hsz := hb.size
    clear hown hF hfl hsrc hne
    by_cases hlt : j < n
    · obtain ⟨ad, s, hA, hab, hs, c0, c1, c2, c3, c4⟩ := spec_at ⟨HN.out, Rd.of_own HSR.out⟩ hlt
      subst hA
      have hsi := (HALL.out s (List.mem_of_getElem? hs))
      have htk : L.take (j + 1) = L.take j ++ [s] := by rw [List.take_add_one, hs]; rfl
      have HTK := Lib.hid htk
      obtain ⟨D, hD⟩ : ∃ D, inv v s = D := ⟨_, rfl⟩
      have HD := Lib.hid hD
      clear htk hs hD
      go_upto_region 6 with fail
      go_cut [31] (fun p wx => p = .bool D ∧ wx = wr)
      case first =>
        have hinv : inv v s = (decide (1 ≤ v) && decide (v ≤ 3) && decide (s.since ≤ v)) := rfl
        by_cases h1 : 1 ≤ v
        · by_cases h2 : v ≤ 3
          · by_cases h3 : s.since ≤ v
            · obtain rfl : D = true := by rw [← HD.out, hinv, decide_eq_true h1, decide_eq_true h2, decide_eq_true h3]; rfl
              clear hinv
              go_wp2
              go_meet
              case rel => exact ⟨rfl, rfl⟩
            · obtain rfl : D = false := by rw [← HD.out, hinv, decide_eq_true h1, decide_eq_true h2, decide_eq_false h3]; rfl
              clear hinv
              go_wp2
              go_meet
              case rel => exact ⟨rfl, rfl⟩
          · obtain rfl : D = false := by rw [← HD.out, hinv, decide_eq_true h1, decide_eq_false h2]; rfl
            clear hinv
            go_wp2
            go_meet
            case rel => exact ⟨rfl, rfl⟩
        · obtain rfl : D = false := by rw [← HD.out, hinv, decide_eq_false h1]; rfl
          clear hinv
          go_wp2
          go_meet
          case rel => exact ⟨rfl, rfl⟩
      case rest =>
        obtain ⟨rfl, hwc⟩ := hcut
        have hwc := hwc.symm
        subst hwc
        cases D with
        | true =>
          go_wp2_with (at_builtin; refine wpList_append_lies _ rfl (.tmp 32) (.tmp 37) 90 rfl w.heap.size 93 i0 (.agg #[.int .i64 0, .int .i64 0, .int .i64 0, .bool false, .bool false]) 5 32 Try.underlying90 hi hz0 hz1 hz2 rfl (by decide) _ m _ rfl (HOW.out.alloc _) ⟨wr.heap.size, 0, none⟩ 1 1 (scells s) rfl rfl (cells_new wr (scells s) 93) (scells_one s) (by decide) (by unfold maxLen; omega) (by omega) (by simp; omega) (wr.heap.size + 1) (by simp) ?_)
          intro g2 cap w2 hown2 hgrow hat hlt2
          have hg2 := (hown2.lt g2 (by simp [Value.ownBlock])).1
          obtain ⟨r1, r2, r3⟩ := grow_two hb hwg HSR.out HNG.out hgrow hat rfl
          have HR2 := Lib.hid hown2
          have R1 := Lib.hid r1
          have R2 := Lib.hid r2
          clear hown2 hgrow hat r1 r2
          go_wp2
          go_roundw
          case rel =>
            refine ⟨j + 1, m + 1, cap, g2, F ++ [s], by omega, by go_num, by omega, rfl, hg2, ?_, by simp [HF.out], ?_, R1.out, R2.out, r3⟩
            · rw [rowc_app, rowc_one]; exact HR2.out
            · rw [HTK.out, List.filter_append, HFL.out, List.filter_cons, if_pos HD.out]; rfl
          case measure => simp [intOf]; omega
        | false =>
          go_wp2
          go_roundw
          case rel =>
            refine ⟨j + 1, m, co, g, F, by omega, by go_num, by omega, rfl, hwg, HOW.out, HF.out, ?_, HSR.out, HNG.out, hb⟩
            rw [HTK.out, List.filter_append, HFL.out, List.filter_cons, if_neg (by rw [HD.out]; decide)]
            simp
          case measure => simp [intOf]; omega
    · obtain rfl : j = n := by omega
      have hfl := HFL.out
      rw [List.take_of_length_le (by have := HN.out; omega)] at hfl
      have HFE := Lib.hid hfl
      have hcap := own_cap' HOW.out
      clear hfl
      go_wp2
      go_ret
      refine ⟨_, m, co, rfl, hcap.1, hcap.2, ?_, ?_, hb⟩
      · rw [HFE.out]; exact HF.out
      · rw [HFE.out]; exact HOW.out
end Go.Proofs.Ytkagonijkalicaa

/-
  Two specs compared.
-/
namespace Go.Proofs.Ytkagonijkalicaa
open Go.RowKit
open Fo (Spc)

set_option maxRecDepth 100000 in
theorem eq_spec (s t : Spc) (w : World) : (Op.equalIn 10000 93 (.agg #[.int .i64 s.num, .int .i64 s.wire, .int .i64 s.since, .bool s.need, .bool s.many]) (.agg #[.int .i64 t.num, .int .i64 t.wire, .int .i64 t.since, .bool t.need, .bool t.many])).run Try.prog w = .ok (decide (s = t)) w := by
  have hst : Try.prog.stoodInHeld 93 = false := by kernel_rfl
  have hfo : Try.prog.underlying 93 = some (.struct (Try.prog.fieldsOf 93)) := by kernel_rfl
  rw [run_equalIn_agg w 9999 93 _ _ hfo hst]
  unfold Program.fieldsOf
  rw [Try.underlying93]
  obtain ⟨a, b, c, d, e⟩ := s
  obtain ⟨a', b', c', d', e'⟩ := t
  go_simp
  repeat' split
  all_goals simp_all
theorem guard_spec : Try.prog.eqGuardType Try.prog.depth 93 = false := by kernel_rfl
theorem spec_if {s t : Spc} {D : Bool} (h : decide (s = t) = D) (w : World) : (if s.num = t.num then
      if s.wire = t.wire then
        if s.since = t.since then
          if s.need = t.need then
            if s.many = t.many then Result.ok (Next.value (Value.bool false)) w
            else Result.ok (Next.value (Value.bool true)) w
          else Result.ok (Next.value (Value.bool true)) w
        else Result.ok (Next.value (Value.bool true)) w
      else Result.ok (Next.value (Value.bool true)) w
    else Result.ok (Next.value (Value.bool true)) w) = Result.ok (Next.value (Value.bool !D)) w := by
  subst h
  obtain ⟨a, b, c, d, e⟩ := s
  obtain ⟨a', b', c', d', e'⟩ := t
  simp only [Spc.mk.injEq]
  repeat' split
  all_goals simp_all
end Go.Proofs.Ytkagonijkalicaa

/-
  The walks of the reference of layer 4: Top, Same.
-/
namespace Go.Proofs.Ytkagonijkalicaa
open Go.RowKit
open Fo (Spc specAll specs inv top)

theorem specs_get {w : World} {B n : Nat} {A : Option Addr} {c : Nat} {l : List Spc} (h : w.ownsRow B 93 5 (.slice A n c) n (rowc scells l)) (hl : l.length = n) : RdR scells 5 w w.heap.size A n l := ⟨hl, Rd.of_own h⟩

set_option maxHeartbeats 4000000 in
set_option maxRecDepth 100000 in
theorem rtop_any (k v : Int) (w : World) (k0 : -9223372036854775808 ≤ k) (k1 : k ≤ 9223372036854775807) (v0 : -9223372036854775808 ≤ v) (v1 : v ≤ 9223372036854775807) : Calls Try.prog 51 #[.int .i64 k, .int .i64 v] w fun e w' => e = .returned (.int .i64 (top k v)) ∧ Below w.heap.size w w' := by
  have hca := rspecs_any k v w k0 k1 v0 v1
  have hmem := fun s (hs : s ∈ specs k v) => Fo.specs_mem hs
  have htop : top k v = (specs k v).foldl (fun t s => max t s.num) 0 := rfl
  have hlen := Fo.specs_len k v
  obtain ⟨l, hl⟩ : ∃ l, specs k v = l := ⟨_, rfl⟩
  rw [hl] at hca htop hlen
  simp only [hl] at hmem
  rw [htop]
  have HCA := Lib.hid hca
  have HME := Lib.hid hmem
  clear hca hl htop hmem
  go_enter Try.func51, Try.ntmps51
  go_wp2_with fail
  refine HCA.out.mono ?_
  rintro e w1 ⟨A, n, c, rfl, hnc, hmax, hn, hown, hb1⟩
  have HR := Lib.hid (specs_get hown hn)
  have HN := Lib.hid hn
  clear hown hn HCA
  go_wp2
  go_loop [5, 7] (fun x i => ∃ (j : Nat) (t : Int), j ≤ n ∧ i = .int .i64 (j : Int) ∧ x = .int .i64 t ∧ (l.take j).foldl (fun t s => max t s.num) 0 = t ∧ 0 ≤ t ∧ t ≤ 10) (fun _ i => n - (intOf i).toNat)
  case atStart => exact ⟨0, 0, Nat.zero_le _, rfl, rfl, rfl, by omega, by omega⟩
  case round =>
    obtain ⟨j, t, hj, rfl, rfl, ht, ht0, ht1⟩ := hrel
    have HT := Lib.hid ht
    clear ht
    by_cases hlt : j < n
    · obtain ⟨ad, s, hA, hab, hs, c0, c1, c2, c3, c4⟩ := spec_at HR.out hlt
      subst hA
      have hsm := HME.out s (List.mem_of_getElem? hs)
      have hstep : (l.take (j + 1)).foldl (fun t s => max t s.num) 0 = max t s.num := by
        rw [List.take_add_one, hs, List.foldl_append, HT.out]; rfl
      have HS := Lib.hid hstep
      clear hstep hs
      go_wp2
      all_goals
        go_round
        case rel =>
          refine ⟨j + 1, max t s.num, by omega, by go_num, ?_, HS.out, by omega, by omega⟩
          first | rfl | (congr 1; omega)
        case measure => simp [intOf]; omega
    · obtain rfl : j = n := by omega
      have hfl := HT.out
      rw [List.take_of_length_le (by have := HN.out; omega)] at hfl
      have HFE := Lib.hid hfl
      clear hfl
      go_wp2
      go_ret
      exact ⟨by rw [HFE.out]; rfl, hb1⟩
end Go.Proofs.Ytkagonijkalicaa

/-
  The walks of the landed forms' need, many, from.
-/
namespace Go.Proofs.Ytkagonijkalicaa
open Go.RowKit
open Fo (Spc specAll specs inv top)

set_option maxRecDepth 100000 in
theorem need_any (n k s : Int) (nd m : Bool) (w : World) : Calls Try.prog 90 #[.agg #[.int .i64 n, .int .i64 k, .int .i64 s, .bool nd, .bool m]] w fun e w' => e = .returned (.agg #[.int .i64 n, .int .i64 k, .int .i64 s, .bool true, .bool m]) ∧ Below w.heap.size w w' := by
  go_enter Try.func90, Try.ntmps90
  go_wp2
  (try simp only [Exit.inBlock, Exit.then])
  exact bodyPost_ret (results_cell_row rfl _ _ (w.heap.size + 1) 93 #[.int .i64 n, .int .i64 k, .int .i64 s, .bool true, .bool m] (0, 0) _ rfl (by simpa using heap_alloc_new (w.alloc (.cells #[.int .i64 n, .int .i64 k, .int .i64 s, .bool true, .bool m] 93)) _) Try.underlying93 rfl (by kernel_rfl)) rfl ⟨rfl, ((Below.refl _ _).alloc (Nat.le_refl _) _).alloc (by simp) _⟩
set_option maxRecDepth 100000 in
theorem many_any (n k s : Int) (nd m : Bool) (w : World) : Calls Try.prog 92 #[.agg #[.int .i64 n, .int .i64 k, .int .i64 s, .bool nd, .bool m]] w fun e w' => e = .returned (.agg #[.int .i64 n, .int .i64 k, .int .i64 s, .bool nd, .bool true]) ∧ Below w.heap.size w w' := by
  go_enter Try.func92, Try.ntmps92
  go_wp2
  (try simp only [Exit.inBlock, Exit.then])
  exact bodyPost_ret (results_cell_row rfl _ _ (w.heap.size + 1) 93 #[.int .i64 n, .int .i64 k, .int .i64 s, .bool nd, .bool true] (0, 0) _ rfl (by simpa using heap_alloc_new (w.alloc (.cells #[.int .i64 n, .int .i64 k, .int .i64 s, .bool nd, .bool true] 93)) _) Try.underlying93 rfl (by kernel_rfl)) rfl ⟨rfl, ((Below.refl _ _).alloc (Nat.le_refl _) _).alloc (by simp) _⟩
set_option maxRecDepth 100000 in
theorem from_any (v n k s : Int) (nd m : Bool) (w : World) : Calls Try.prog 91 #[.int .i64 v, .agg #[.int .i64 n, .int .i64 k, .int .i64 s, .bool nd, .bool m]] w fun e w' => e = .returned (.agg #[.int .i64 n, .int .i64 k, .int .i64 v, .bool nd, .bool m]) ∧ Below w.heap.size w w' := by
  go_enter Try.func91, Try.ntmps91
  go_wp2
  (try simp only [Exit.inBlock, Exit.then])
  exact bodyPost_ret (results_cell_row rfl _ _ (w.heap.size + 1) 93 #[.int .i64 n, .int .i64 k, .int .i64 v, .bool nd, .bool m] (0, 0) _ rfl (by simpa using heap_alloc_new (w.alloc (.cells #[.int .i64 n, .int .i64 k, .int .i64 v, .bool nd, .bool m] 93)) _) Try.underlying93 rfl (by kernel_rfl)) rfl ⟨rfl, ((Below.refl _ _).alloc (Nat.le_refl _) _).alloc (by simp) _⟩
end Go.Proofs.Ytkagonijkalicaa
