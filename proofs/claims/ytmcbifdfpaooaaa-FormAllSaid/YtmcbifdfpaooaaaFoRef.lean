/-
  The walks of the reference of layer 4: which fields a record has.
-/
import Derived.Test.YtmcbifdfpaooaaaRow
import Derived.Test.YtmcbifdfpaooaaaFoPlain
import Derived.Deep.DeepCutAuto
import Derived.BigQuiet
namespace Go.Proofs.Ytmcbifdfpaooaaa
open Go.RowKit
open Fo (Spc specAll specs inv top)

/-- A spec's cells. -/
def scells (s : Spc) : List Value := [.int .i64 s.num, .int .i64 s.wire, .int .i64 s.since, .bool s.need, .bool s.many]
theorem scells_len (s : Spc) : (scells s).length = 5 := rfl
theorem scells_one (s : Spc) : ∀ u ∈ scells s, u.oneCell' = true := by
  intro u hu
  simp [scells] at hu
  rcases hu with rfl | rfl | rfl | rfl | rfl <;> rfl
theorem spec_info : (Try.prog.info? 33).map (fun i => (i.zero, i.size, i.bytes)) = some (some (.agg #[.int .i64 0, .int .i64 0, .int .i64 0, .bool false, .bool false]), 5, 32) := by kernel_rfl
/-- What comes back is a row of specs in memory of the call's own. -/
def NewSpecs (w : World) (l : List Spc) (e : Ending) (w' : World) : Prop := ∃ (A : Option Addr) (n c : Nat), e = .returned (.slice A n c) ∧ n ≤ c ∧ c ≤ 9223372036854775807 ∧ l.length = n ∧ w'.ownsRow w.heap.size 33 5 (.slice A n c) n (rowc scells l) ∧ Below w.heap.size w w'

set_option maxRecDepth 100000 in
theorem number_any (n s : Int) (nd : Bool) (w : World) : Calls Try.prog 28 #[.int .i64 n, .int .i64 s, .bool nd] w fun e w' => e = .returned (.agg #[.int .i64 n, .int .i64 0, .int .i64 s, .bool nd, .bool false]) ∧ Below w.heap.size w w' := by
  go_enter Try.func28, Try.ntmps28
  go_wp2
  (try simp only [Exit.inBlock, Exit.then])
  exact bodyPost_ret (results_cell_row rfl _ _ w.heap.size 33 #[.int .i64 n, .int .i64 0, .int .i64 s, .bool nd, .bool false] (0, 0) _ rfl (heap_alloc_new w _) Try.underlying33 rfl (by kernel_rfl)) rfl ⟨rfl, (Below.refl _ _).alloc (Nat.le_refl _) _⟩
set_option maxRecDepth 100000 in
theorem bytes_any (n s : Int) (nd m : Bool) (w : World) : Calls Try.prog 29 #[.int .i64 n, .int .i64 s, .bool nd, .bool m] w fun e w' => e = .returned (.agg #[.int .i64 n, .int .i64 2, .int .i64 s, .bool nd, .bool m]) ∧ Below w.heap.size w w' := by
  go_enter Try.func29, Try.ntmps29
  go_wp2
  (try simp only [Exit.inBlock, Exit.then])
  exact bodyPost_ret (results_cell_row rfl _ _ w.heap.size 33 #[.int .i64 n, .int .i64 2, .int .i64 s, .bool nd, .bool m] (0, 0) _ rfl (heap_alloc_new w _) Try.underlying33 rfl (by kernel_rfl)) rfl ⟨rfl, (Below.refl _ _).alloc (Nat.le_refl _) _⟩

/-- A row of specs that is written out behind calls. -/
theorem lit_specs {w wx : World} {l : List Spc} {n : Nat} {cs : Array Value} (hb : Below w.heap.size w wx) (hl : l.length = n) (hn : n ≤ 10) (hcs : (rowc scells l).toArray = cs) :
    NewSpecs w l (.returned (.slice (some ⟨wx.heap.size, 0, none⟩) n n)) (wx.alloc (.cells cs 33)) := by
  refine ⟨_, n, n, rfl, Nat.le_refl _, by omega, hl, ?_, hb.alloc hb.size _⟩
  rw [← hcs]
  exact own_lit (by rw [rowc_len scells_len, hl]) (by unfold maxLen; omega) hb.size

set_option maxHeartbeats 4000000 in
set_option maxRecDepth 100000 in
theorem rall_any (k : Int) (w : World) (k0 : -9223372036854775808 ≤ k) (k1 : k ≤ 9223372036854775807) : Calls Try.prog 19 #[.int .i64 k] w (NewSpecs w (specAll k)) := by
  by_cases h1 : k = 1
  · have hs : specAll k = specAll 1 := by rw [h1]
    rw [hs]
    have q1 : (k == 1) = true := by rw [h1]; rfl
    clear hs h1
    go_enter Try.func19, Try.ntmps19
    have hb0 : Below w.heap.size w w := Below.refl _ _
    go_wp2_with fail
    refine (number_any _ _ _ _).mono ?_
    rintro e w1 ⟨rfl, hc⟩
    have hb1 := hb0.trans (hc.mono hb0.size)
    clear hc
    go_wp2_with fail
    refine (number_any _ _ _ _).mono ?_
    rintro e w2 ⟨rfl, hc⟩
    have hb2 := hb1.trans (hc.mono hb1.size)
    clear hc
    go_wp2_with fail
    refine (number_any _ _ _ _).mono ?_
    rintro e w3 ⟨rfl, hc⟩
    have hb3 := hb2.trans (hc.mono hb2.size)
    clear hc
    go_wp2_with fail
    refine (number_any _ _ _ _).mono ?_
    rintro e w4 ⟨rfl, hc⟩
    have hb4 := hb3.trans (hc.mono hb3.size)
    clear hc
    go_wp2_with fail
    refine (number_any _ _ _ _).mono ?_
    rintro e w5 ⟨rfl, hc⟩
    have hb5 := hb4.trans (hc.mono hb4.size)
    clear hc
    go_wp2_with fail
    refine (number_any _ _ _ _).mono ?_
    rintro e w6 ⟨rfl, hc⟩
    have hb6 := hb5.trans (hc.mono hb5.size)
    clear hc
    go_wp2_with fail
    refine (bytes_any _ _ _ _ _).mono ?_
    rintro e w7 ⟨rfl, hc⟩
    have hb7 := hb6.trans (hc.mono hb6.size)
    clear hc
    go_wp2_with fail
    refine (bytes_any _ _ _ _ _).mono ?_
    rintro e w8 ⟨rfl, hc⟩
    have hb8 := hb7.trans (hc.mono hb7.size)
    clear hc
    go_wp2
    go_ret
    exact lit_specs (n := 8) hb8 rfl (by omega) rfl
  · by_cases h2 : k = 2
    · have hs : specAll k = specAll 2 := by rw [h2]
      rw [hs]
      have q2 : (k == 2) = true := by rw [h2]; rfl
      have q1 : (k == 1) = false := by rw [h2]; rfl
      clear hs h2 h1
      go_enter Try.func19, Try.ntmps19
      have hb0 : Below w.heap.size w w := Below.refl _ _
      go_wp2_with fail
      refine (number_any _ _ _ _).mono ?_
      rintro e w1 ⟨rfl, hc⟩
      have hb1 := hb0.trans (hc.mono hb0.size)
      clear hc
      go_wp2_with fail
      refine (number_any _ _ _ _).mono ?_
      rintro e w2 ⟨rfl, hc⟩
      have hb2 := hb1.trans (hc.mono hb1.size)
      clear hc
      go_wp2_with fail
      refine (bytes_any _ _ _ _ _).mono ?_
      rintro e w3 ⟨rfl, hc⟩
      have hb3 := hb2.trans (hc.mono hb2.size)
      clear hc
      go_wp2_with fail
      refine (number_any _ _ _ _).mono ?_
      rintro e w4 ⟨rfl, hc⟩
      have hb4 := hb3.trans (hc.mono hb3.size)
      clear hc
      go_wp2_with fail
      refine (bytes_any _ _ _ _ _).mono ?_
      rintro e w5 ⟨rfl, hc⟩
      have hb5 := hb4.trans (hc.mono hb4.size)
      clear hc
      go_wp2
      go_ret
      exact lit_specs (n := 5) hb5 rfl (by omega) rfl
    · by_cases h3 : k = 3
      · have hs : specAll k = specAll 3 := by rw [h3]
        rw [hs]
        have q3 : (k == 3) = true := by rw [h3]; rfl
        have q1 : (k == 1) = false := by rw [h3]; rfl
        have q2 : (k == 2) = false := by rw [h3]; rfl
        clear hs h3 h1 h2
        go_enter Try.func19, Try.ntmps19
        have hb0 : Below w.heap.size w w := Below.refl _ _
        go_wp2_with fail
        refine (number_any _ _ _ _).mono ?_
        rintro e w1 ⟨rfl, hc⟩
        have hb1 := hb0.trans (hc.mono hb0.size)
        clear hc
        go_wp2_with fail
        refine (number_any _ _ _ _).mono ?_
        rintro e w2 ⟨rfl, hc⟩
        have hb2 := hb1.trans (hc.mono hb1.size)
        clear hc
        go_wp2
        go_ret
        exact lit_specs (n := 2) hb2 rfl (by omega) rfl
      · by_cases h4 : k = 4
        · have hs : specAll k = specAll 4 := by rw [h4]
          rw [hs]
          have q4 : (k == 4) = true := by rw [h4]; rfl
          have q1 : (k == 1) = false := by rw [h4]; rfl
          have q2 : (k == 2) = false := by rw [h4]; rfl
          have q3 : (k == 3) = false := by rw [h4]; rfl
          clear hs h4 h1 h2 h3
          go_enter Try.func19, Try.ntmps19
          have hb0 : Below w.heap.size w w := Below.refl _ _
          go_wp2_with fail
          refine (number_any _ _ _ _).mono ?_
          rintro e w1 ⟨rfl, hc⟩
          have hb1 := hb0.trans (hc.mono hb0.size)
          clear hc
          go_wp2_with fail
          refine (number_any _ _ _ _).mono ?_
          rintro e w2 ⟨rfl, hc⟩
          have hb2 := hb1.trans (hc.mono hb1.size)
          clear hc
          go_wp2_with fail
          refine (number_any _ _ _ _).mono ?_
          rintro e w3 ⟨rfl, hc⟩
          have hb3 := hb2.trans (hc.mono hb2.size)
          clear hc
          go_wp2_with fail
          refine (number_any _ _ _ _).mono ?_
          rintro e w4 ⟨rfl, hc⟩
          have hb4 := hb3.trans (hc.mono hb3.size)
          clear hc
          go_wp2
          go_ret
          exact lit_specs (n := 4) hb4 rfl (by omega) rfl
        · by_cases h5 : k = 5
          · have hs : specAll k = specAll 5 := by rw [h5]
            rw [hs]
            have q5 : (k == 5) = true := by rw [h5]; rfl
            have q1 : (k == 1) = false := by rw [h5]; rfl
            have q2 : (k == 2) = false := by rw [h5]; rfl
            have q3 : (k == 3) = false := by rw [h5]; rfl
            have q4 : (k == 4) = false := by rw [h5]; rfl
            clear hs h5 h1 h2 h3 h4
            go_enter Try.func19, Try.ntmps19
            have hb0 : Below w.heap.size w w := Below.refl _ _
            go_wp2_with fail
            refine (number_any _ _ _ _).mono ?_
            rintro e w1 ⟨rfl, hc⟩
            have hb1 := hb0.trans (hc.mono hb0.size)
            clear hc
            go_wp2_with fail
            refine (number_any _ _ _ _).mono ?_
            rintro e w2 ⟨rfl, hc⟩
            have hb2 := hb1.trans (hc.mono hb1.size)
            clear hc
            go_wp2_with fail
            refine (number_any _ _ _ _).mono ?_
            rintro e w3 ⟨rfl, hc⟩
            have hb3 := hb2.trans (hc.mono hb2.size)
            clear hc
            go_wp2_with fail
            refine (bytes_any _ _ _ _ _).mono ?_
            rintro e w4 ⟨rfl, hc⟩
            have hb4 := hb3.trans (hc.mono hb3.size)
            clear hc
            go_wp2_with fail
            refine (bytes_any _ _ _ _ _).mono ?_
            rintro e w5 ⟨rfl, hc⟩
            have hb5 := hb4.trans (hc.mono hb4.size)
            clear hc
            go_wp2_with fail
            refine (bytes_any _ _ _ _ _).mono ?_
            rintro e w6 ⟨rfl, hc⟩
            have hb6 := hb5.trans (hc.mono hb5.size)
            clear hc
            go_wp2_with fail
            refine (number_any _ _ _ _).mono ?_
            rintro e w7 ⟨rfl, hc⟩
            have hb7 := hb6.trans (hc.mono hb6.size)
            clear hc
            go_wp2
            go_ret
            exact lit_specs (n := 7) hb7 rfl (by omega) rfl
          · by_cases h6 : k = 6
            · have hs : specAll k = specAll 6 := by rw [h6]
              rw [hs]
              have q6 : (k == 6) = true := by rw [h6]; rfl
              have q1 : (k == 1) = false := by rw [h6]; rfl
              have q2 : (k == 2) = false := by rw [h6]; rfl
              have q3 : (k == 3) = false := by rw [h6]; rfl
              have q4 : (k == 4) = false := by rw [h6]; rfl
              have q5 : (k == 5) = false := by rw [h6]; rfl
              clear hs h6 h1 h2 h3 h4 h5
              go_enter Try.func19, Try.ntmps19
              have hb0 : Below w.heap.size w w := Below.refl _ _
              go_wp2_with fail
              refine (number_any _ _ _ _).mono ?_
              rintro e w1 ⟨rfl, hc⟩
              have hb1 := hb0.trans (hc.mono hb0.size)
              clear hc
              go_wp2_with fail
              refine (number_any _ _ _ _).mono ?_
              rintro e w2 ⟨rfl, hc⟩
              have hb2 := hb1.trans (hc.mono hb1.size)
              clear hc
              go_wp2_with fail
              refine (number_any _ _ _ _).mono ?_
              rintro e w3 ⟨rfl, hc⟩
              have hb3 := hb2.trans (hc.mono hb2.size)
              clear hc
              go_wp2_with fail
              refine (number_any _ _ _ _).mono ?_
              rintro e w4 ⟨rfl, hc⟩
              have hb4 := hb3.trans (hc.mono hb3.size)
              clear hc
              go_wp2_with fail
              refine (number_any _ _ _ _).mono ?_
              rintro e w5 ⟨rfl, hc⟩
              have hb5 := hb4.trans (hc.mono hb4.size)
              clear hc
              go_wp2_with fail
              refine (number_any _ _ _ _).mono ?_
              rintro e w6 ⟨rfl, hc⟩
              have hb6 := hb5.trans (hc.mono hb5.size)
              clear hc
              go_wp2_with fail
              refine (number_any _ _ _ _).mono ?_
              rintro e w7 ⟨rfl, hc⟩
              have hb7 := hb6.trans (hc.mono hb6.size)
              clear hc
              go_wp2_with fail
              refine (number_any _ _ _ _).mono ?_
              rintro e w8 ⟨rfl, hc⟩
              have hb8 := hb7.trans (hc.mono hb7.size)
              clear hc
              go_wp2_with fail
              refine (number_any _ _ _ _).mono ?_
              rintro e w9 ⟨rfl, hc⟩
              have hb9 := hb8.trans (hc.mono hb8.size)
              clear hc
              go_wp2_with fail
              refine (bytes_any _ _ _ _ _).mono ?_
              rintro e w10 ⟨rfl, hc⟩
              have hb10 := hb9.trans (hc.mono hb9.size)
              clear hc
              go_wp2
              go_ret
              exact lit_specs (n := 10) hb10 rfl (by omega) rfl
            · by_cases h7 : k = 7
              · have hs : specAll k = specAll 7 := by rw [h7]
                rw [hs]
                have q7 : (k == 7) = true := by rw [h7]; rfl
                have q1 : (k == 1) = false := by rw [h7]; rfl
                have q2 : (k == 2) = false := by rw [h7]; rfl
                have q3 : (k == 3) = false := by rw [h7]; rfl
                have q4 : (k == 4) = false := by rw [h7]; rfl
                have q5 : (k == 5) = false := by rw [h7]; rfl
                have q6 : (k == 6) = false := by rw [h7]; rfl
                clear hs h7 h1 h2 h3 h4 h5 h6
                go_enter Try.func19, Try.ntmps19
                have hb0 : Below w.heap.size w w := Below.refl _ _
                go_wp2_with fail
                refine (number_any _ _ _ _).mono ?_
                rintro e w1 ⟨rfl, hc⟩
                have hb1 := hb0.trans (hc.mono hb0.size)
                clear hc
                go_wp2_with fail
                refine (bytes_any _ _ _ _ _).mono ?_
                rintro e w2 ⟨rfl, hc⟩
                have hb2 := hb1.trans (hc.mono hb1.size)
                clear hc
                go_wp2
                go_ret
                exact lit_specs (n := 2) hb2 rfl (by omega) rfl
              · have hs : specAll k = [] := by unfold specAll; rw [if_neg h1, if_neg h2, if_neg h3, if_neg h4, if_neg h5, if_neg h6, if_neg h7]
                rw [hs]
                have q1 : (k == 1) = false := by rw [beq_eq_false_iff_ne]; exact h1
                have q2 : (k == 2) = false := by rw [beq_eq_false_iff_ne]; exact h2
                have q3 : (k == 3) = false := by rw [beq_eq_false_iff_ne]; exact h3
                have q4 : (k == 4) = false := by rw [beq_eq_false_iff_ne]; exact h4
                have q5 : (k == 5) = false := by rw [beq_eq_false_iff_ne]; exact h5
                have q6 : (k == 6) = false := by rw [beq_eq_false_iff_ne]; exact h6
                have q7 : (k == 7) = false := by rw [beq_eq_false_iff_ne]; exact h7
                clear hs h1 h2 h3 h4 h5 h6 h7
                go_enter Try.func19, Try.ntmps19
                go_wp2
                go_ret
                exact ⟨none, 0, 0, rfl, Nat.le_refl _, by omega, rfl, World.ownsRow_nil _ _ _ _, Below.refl _ _⟩
end Go.Proofs.Ytmcbifdfpaooaaa
