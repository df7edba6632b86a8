/-
  The walks of the landed tlv's rising and its closure.
-/
import Derived.Test.YtmcbifdfpaooaaaTlFalls
import Derived.Deep.DeepCutAuto
import Derived.Deep.AppendLies
namespace Go.Proofs.Ytmcbifdfpaooaaa
open Go.RowKit
open Tl (Fel)

/-- The closure that goes along a row, and the field that it keeps. -/
def riseOf (g : Nat) : Value := .func (.func 33) #[] #[.pointer (some ⟨g, 0, none⟩)]
def fblk (f : Fel) (s : Option Addr × Nat) : Array Value := #[.int .i64 f.num, .int .i64 f.wire, .int .u64 (f.n : Int), .slice s.1 f.b.length s.2]
def noneAhead : Fel := ⟨0, 0, 0, []⟩

set_option maxRecDepth 100000 in
theorem rising_any (w : World) : Calls Try.prog 30 #[] w fun e w' => e = .returned (riseOf w.heap.size) ∧ w' = w.alloc (.cells (fblk noneAhead (none, 0)) 39) := by
  have hmf : ∀ (fn : Fn) (first cap : Array Value) (w : World), (Instr.makeFunc fn first cap).run Try.prog w = .ok (.func fn first cap) w := fun _ _ _ _ => rfl
  go_enter Try.func30, Try.ntmps30
  go_wp2
  go_ret
  exact ⟨rfl, rfl⟩

theorem grown_set (w : World) (g i : Nat) (v : Value) : w.grownBy (w.setCell ⟨g, i, none⟩ v) (some g) :=
  ⟨rfl, rfl, rfl, by simp [World.setCell], fun k _ hk => Below.heap_setCell w ⟨g, i, none⟩ v k (by simpa using hk)⟩

theorem falls_not (p f : Fel) : (!Tl.falls p f) = (decide (p.num < f.num) || decide (f.num = p.num) && (decide (f.wire = 2) && decide (p.wire = 2))) := by
  unfold Tl.falls
  by_cases h1 : f.num < p.num
  · rw [decide_eq_true h1, decide_eq_false (show ¬ p.num < f.num by omega), decide_eq_false (show ¬ f.num = p.num by omega)]; rfl
  · by_cases h2 : f.num = p.num
    · rw [decide_eq_false h1, decide_eq_true h2, decide_eq_false (show ¬ p.num < f.num by omega)]
      by_cases h3 : p.wire = 2
      · by_cases h4 : f.wire = 2
        · simp [h3, h4]
        · simp [h3, h4]
      · simp [h3]
    · rw [decide_eq_false h1, decide_eq_false h2, decide_eq_true (show p.num < f.num by omega)]; rfl

set_option maxHeartbeats 1000000 in
set_option maxRecDepth 100000 in
theorem rise_any (g : Nat) (p f : Fel) (sp s : Option Addr × Nat) (w : World) (hk : Blk w g 39 (fblk p sp)) :
    Calls Try.prog 33 #[aggOf f s, .pointer (some ⟨g, 0, none⟩)] w fun e w' => e = .returned (.bool (!Tl.falls p f)) ∧ w.grownBy w' (some g) ∧ Blk w' g 39 (fblk f s) := by
  unfold aggOf
  have hlt := hk.lt
  have hkk := hk.alloc (.cells #[.int .i64 f.num, .int .i64 f.wire, .int .u64 (f.n : Int), .slice s.1 f.b.length s.2] 39)
  have c0 := hkk.cell 0
  have c1 := hkk.cell 1
  have z0 := hkk.frozen 0
  have z1 := hkk.frozen 1
  have z2 := hkk.frozen 2
  have z3 := hkk.frozen 3
  simp [fblk] at c0 c1
  have k0 := hk.cell 0
  have k1 := hk.cell 1
  have k2 := hk.cell 2
  have k3 := hk.cell 3
  have y0 := hk.frozen 0
  have y1 := hk.frozen 1
  have y2 := hk.frozen 2
  have y3 := hk.frozen 3
  simp [fblk] at k0 k1 k2 k3
  have HK := Lib.hid hk
  have hG := falls_not p f
  obtain ⟨M, hM⟩ : ∃ M, (decide (f.wire = 2) && decide (p.wire = 2)) = M := ⟨_, rfl⟩
  obtain ⟨D, hD⟩ : ∃ D, (!Tl.falls p f) = D := ⟨_, rfl⟩
  rw [hM, hD] at hG
  rw [hD]
  have HM := Lib.hid hM
  have HG := Lib.hid hG
  clear hM hG hD hk hkk
  go_enter Try.func33, Try.ntmps33
  go_upto_region 1 with fail
  go_cut [4] (fun b wx => b = .bool M ∧ wx = w.alloc (.cells #[.int .i64 f.num, .int .i64 f.wire, .int .u64 (f.n : Int), .slice s.1 f.b.length s.2] 39))
  case first =>
    have hM := HM.out
    by_cases h3 : f.wire = 2
    · have q3 : (f.wire == 2) = true := by rw [h3]; rfl
      by_cases h4 : p.wire = 2
      · have q4 : (p.wire == 2) = true := by rw [h4]; rfl
        obtain rfl : true = M := by rw [← hM, h3, h4]; rfl
        clear h3 h4 hM
        go_wp2
        go_meet
        case rel => exact ⟨rfl, rfl⟩
      · have q4 : (p.wire == 2) = false := by rw [beq_eq_false_iff_ne]; exact h4
        obtain rfl : false = M := by rw [← hM, decide_eq_false h4]; simp
        clear h3 h4 hM
        go_wp2
        go_meet
        case rel => exact ⟨rfl, rfl⟩
    · have q3 : (f.wire == 2) = false := by rw [beq_eq_false_iff_ne]; exact h3
      obtain rfl : false = M := by rw [← hM, decide_eq_false h3]; simp
      clear h3 hM
      go_wp2
      go_meet
      case rel => exact ⟨rfl, rfl⟩
  case rest =>
    obtain ⟨rfl, rfl⟩ := hcut
    go_upto_region 2 with fail
    go_cut [5] (fun b wx => b = .bool D ∧ wx = w.alloc (.cells #[.int .i64 f.num, .int .i64 f.wire, .int .u64 (f.n : Int), .slice s.1 f.b.length s.2] 39))
    case first =>
      have hG := HG.out
      by_cases h3 : p.num < f.num
      · obtain rfl : D = true := by rw [hG, decide_eq_true h3]; rfl
        clear hG
        go_wp2
        go_meet
        case rel => exact ⟨rfl, rfl⟩
      · by_cases h4 : f.num = p.num
        · have q4 : (f.num == p.num) = true := by rw [h4]; simp
          obtain rfl : D = M := by rw [hG, decide_eq_false h3, decide_eq_true h4]; simp
          clear hG h4
          go_wp2
          go_meet
          case rel => exact ⟨rfl, rfl⟩
        · have q4 : (f.num == p.num) = false := by rw [beq_eq_false_iff_ne]; exact h4
          obtain rfl : D = false := by rw [hG, decide_eq_false h3, decide_eq_false h4]; rfl
          clear hG h4
          go_wp2
          go_meet
          case rel => exact ⟨rfl, rfl⟩
    case rest =>
      obtain ⟨rfl, rfl⟩ := hcut
      go_wp2
      go_ret
      refine ⟨rfl, ?_, ?_⟩
      · exact ((((grown_set _ _ _ _).trans (grown_set _ _ _ _)).trans (grown_set _ _ _ _)).trans (grown_set _ _ _ _)).trans (World.grownBy_alloc _ _ _)
      · have h1 := (((HK.out.put 0 (.int .i64 f.num)).put 1 (.int .i64 f.wire)).put 2 (.int .u64 (f.n : Int))).put 3 (.slice s.1 f.b.length s.2)
        exact Blk.alloc (by simpa [fblk] using h1) _
end Go.Proofs.Ytmcbifdfpaooaaa
