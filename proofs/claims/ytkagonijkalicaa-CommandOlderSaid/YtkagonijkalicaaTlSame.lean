/-
  The walk of the reference's Same: two rows are the same.
-/
import Derived.Test.YtkagonijkalicaaMgB
import Derived.BigQuiet
import Derived.Deep.DeepCutAuto
set_option linter.unusedVariables false
set_option linter.unusedSimpArgs false
namespace Go.Proofs.Ytkagonijkalicaa
open Go.RowKit
open Tl (Fel)

def sameAt (f g : Fel) : Prop := f.num = g.num ∧ f.wire = g.wire ∧ f.n = g.n ∧ f.b = g.b
theorem fel_ext {f g : Fel} : sameAt f g ↔ f = g := by
  obtain ⟨a, b, c, d⟩ := f
  obtain ⟨a', b', c', d'⟩ := g
  simp [sameAt]

theorem same_at {l l' : List Fel} {j : Nat} {f f' : Fel} (h : l = l') (hf : l[j]? = some f) (hf' : l'[j]? = some f') : f = f' := by
  subst h
  rw [hf] at hf'
  exact Option.some.inj hf'

set_option maxHeartbeats 4000000 in
set_option maxRecDepth 100000 in
theorem same_any (A A' : Option Addr) (n n' c c' B : Nat) (l l' : List Fel) (S S' : List (Option Addr × Nat)) (w : World) (h : RdF w B A n l S) (h' : RdF w B A' n' l' S') (hnc : n ≤ c) (hmax : c ≤ 9223372036854775807) (hnc' : n' ≤ c') (hmax' : c' ≤ 9223372036854775807)
    (hw : ∀ f ∈ l, f.wf) (hw' : ∀ f ∈ l', f.wf) :
    Calls Try.prog 31 #[.slice A n c, .slice A' n' c'] w fun e w' => ∃ d : Bool, e = .returned (.bool d) ∧ (d = true ↔ l = l') ∧ Below w.heap.size w w' := by
  have HR := Lib.hid h
  have HR' := Lib.hid h'
  have HW := Lib.hid hw
  have HW' := Lib.hid hw'
  have HL := Lib.hid h.1
  have HL' := Lib.hid h'.1
  clear h h' hw hw'
  by_cases hn : n = n'
  · subst hn
    go_enter Try.func31, Try.ntmps31
    go_wp2
    go_loopw [5] (fun i wr => ∃ j : Nat, j ≤ n ∧ i = .int .i64 (j : Int) ∧ l.take j = l'.take j ∧ Below w.heap.size w wr ∧ ∀ p, wr.cell? p = w.cell? p) (fun i _ => n - (intOf i).toNat)
    case atStart => exact ⟨0, Nat.zero_le _, rfl, rfl, Below.refl _ _, fun _ => rfl⟩
    case round =>
      obtain ⟨j, hj, rfl, hpre, hb, hcell⟩ := hrel
      have HP := Lib.hid hpre
      clear hpre
      by_cases hlt : j < n
      · have hkeep : ∀ p : Addr, p.block < B → wr.cell? p = w.cell? p := fun p _ => hcell p
        have hr1 : RdF wr B A n l S := ⟨HR.out.1, HR.out.2.1, HR.out.2.2.1.keep hkeep, fun k f s hf hs => ⟨(HR.out.2.2.2 k f s hf hs).1.keep hkeep, (HR.out.2.2.2 k f s hf hs).2⟩⟩
        have hr2 : RdF wr B A' n l' S' := ⟨HR'.out.1, HR'.out.2.1, HR'.out.2.2.1.keep hkeep, fun k f s hf hs => ⟨(HR'.out.2.2.2 k f s hf hs).1.keep hkeep, (HR'.out.2.2.2 k f s hf hs).2⟩⟩
        obtain ⟨ad, f, s, rfl, hab, hf, hs, g0, g1, g2, g3, hrd, hs1, hs2⟩ := hr1.spell hlt
        obtain ⟨ad', f', s', rfl, hab', hf', hs', g0', g1', g2', g3', hrd', hs1', hs2'⟩ := hr2.spell hlt
        have hfb : ∀ c ∈ f.b, c < 256 := (HW.out f (List.mem_of_getElem? hf)).2
        have hfb' : ∀ c ∈ f'.b, c < 256 := (HW'.out f' (List.mem_of_getElem? hf')).2
        have s1 := fun k => run_str (P := Try.prog) (wr.drewN k) 25 9 5 Try.underlying25 Try.underlying5 Try.underlying9 (hrd.drewN k) s.2
        have s2 := fun k => run_str (P := Try.prog) (wr.drewN k) 25 9 5 Try.underlying25 Try.underlying5 Try.underlying9 (hrd'.drewN k) s'.2
        have s3 := str_beq hfb hfb'
        have HF := Lib.hid hf
        have HF' := Lib.hid hf'
        have HC := Lib.hid hcell
        clear hr1 hr2 hkeep hcell hfb hfb' hf hf' hs hs' hrd hrd'
        by_cases e1 : f.num = f'.num
        · have q1 : (f.num != f'.num) = false := by rw [e1]; simp
          by_cases e2 : f.wire = f'.wire
          · have q2 : (f.wire != f'.wire) = false := by rw [e2]; simp
            by_cases e3 : f.n = f'.n
            · have q3 : ((f.n : Int) != (f'.n : Int)) = false := by rw [e3]; simp
              by_cases e4 : f.b = f'.b
              · rw [decide_eq_true e4] at s3
                have hff : f = f' := fel_ext.1 ⟨e1, e2, e3, e4⟩
                have HFF := Lib.hid hff
                clear e1 e2 e3 e4 hff
                go_upto_region 6 with fail
                go_quiet (fail)
                go_wp2
                go_roundw
                case rel =>
                  refine ⟨j + 1, by omega, by go_num, ?_, bel_drewN hb _, fun p => HC.out p⟩
                  rw [List.take_add_one, List.take_add_one, HP.out, HF.out, HF'.out, HFF.out]
                case measure => simp [intOf]; omega
              · have HNE := Lib.hid (show ¬ f = f' from fun h => e4 (by rw [h]))
                rw [decide_eq_false e4] at s3
                clear e1 e2 e3 e4
                go_upto_region 6 with fail
                go_quiet (fail)
                go_wp2
                go_ret
                exact ⟨false, rfl, ⟨fun h => (by cases h), fun h => absurd (same_at h HF.out HF'.out) HNE.out⟩, bel_drewN hb _⟩
            · have HNE := Lib.hid (show ¬ f = f' from fun h => e3 (by rw [h]))
              have q3 : ((f.n : Int) != (f'.n : Int)) = true := by rw [bne_iff_ne]; omega
              clear e3
              go_upto_region 6 with fail
              go_quiet (fail)
              go_wp2
              go_ret
              exact ⟨false, rfl, ⟨fun h => (by cases h), fun h => absurd (same_at h HF.out HF'.out) HNE.out⟩, bel_drewN hb _⟩
          · have HNE := Lib.hid (show ¬ f = f' from fun h => e2 (by rw [h]))
            have q2 : (f.wire != f'.wire) = true := by rw [bne_iff_ne]; exact e2
            clear e2
            go_upto_region 6 with fail
            go_quiet (fail)
            go_wp2
            go_ret
            exact ⟨false, rfl, ⟨fun h => (by cases h), fun h => absurd (same_at h HF.out HF'.out) HNE.out⟩, bel_drewN hb _⟩
        · have HNE := Lib.hid (show ¬ f = f' from fun h => e1 (by rw [h]))
          have q1 : (f.num != f'.num) = true := by rw [bne_iff_ne]; exact e1
          clear e1
          go_upto_region 6 with fail
          go_quiet (fail)
          go_wp2
          go_ret
          exact ⟨false, rfl, ⟨fun h => (by cases h), fun h => absurd (same_at h HF.out HF'.out) HNE.out⟩, bel_drewN hb _⟩
      · obtain rfl : j = n := by omega
        have hll : l = l' := by
          have h1 := HP.out
          rwa [List.take_of_length_le (by have := HL.out; omega), List.take_of_length_le (by have := HL'.out; omega)] at h1
        have HLL := Lib.hid hll
        clear hll
        go_wp2
        go_ret
        exact ⟨true, rfl, ⟨fun _ => HLL.out, fun _ => rfl⟩, hb⟩
  · have q : ((n : Int) != (n' : Int)) = true := by rw [bne_iff_ne]; omega
    have HNE := Lib.hid (show ¬ l = l' from fun h => hn (by rw [← HL.out, ← HL'.out, h]))
    clear hn
    go_enter Try.func31, Try.ntmps31
    go_wp2
    go_ret
    exact ⟨false, rfl, ⟨fun h => (by cases h), fun h => absurd h HNE.out⟩, Below.refl _ _⟩
end Go.Proofs.Ytkagonijkalicaa
