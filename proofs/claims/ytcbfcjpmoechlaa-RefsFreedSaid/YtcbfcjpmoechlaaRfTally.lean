/-
  The walks of the landed count, of used, and of the closures that look into a tally.
-/
import Derived.Test.YtcbfcjpmoechlaaRfAdd
import Derived.Test.YtcbfcjpmoechlaaRfThat
import Derived.Test.YtcbfcjpmoechlaaBlkRow
set_option linter.unusedVariables false
set_option linter.unusedSimpArgs false
namespace Go.Proofs.Ytcbfcjpmoechlaa
open Go.RowKit
open Rf (Snp cnt many counts distinctN has without freed freedN one withC)

theorem tally_load {w : World} {g : Nat} {f : Int → Nat} (h : Blk w g 42 (tal f)) : (Instr.loadAt 42 (.pointer (some ⟨g, 0, none⟩))).run Try.prog w = .ok (.agg (tal f)) w := by
  simp only [Instr.loadAt, Instr.sureAddr, Sem.run_bind, Sem.run_pure, Result.andThen_ok]
  exact run_loadVar_row w g _ _ _ _ _ h Try.underlying42 rfl (by rw [tal_size]; exact tally_size)

theorem tally_store {w : World} {g : Nat} {f h : Int → Nat} (hk : Blk w g 42 (tal f)) : (Instr.storeAt 42 (.pointer (some ⟨g, 0, none⟩)) (.agg (tal h))).run Try.prog w = .ok () (w.setRow g (tal h)) := by
  simp only [Instr.storeAt, Instr.sureAddr, Sem.run_bind, Sem.run_pure, Result.andThen_ok]
  exact run_storeVar_row w g _ _ _ _ hk (by rw [tal_size]; exact tally_size) (by rw [tal_size, tal_size]) (tal_one h)
theorem tal_ne (f : Int → Nat) : ¬ tal f = #[] := fun h => by
  have := tal_size f
  rw [h] at this
  simp at this

set_option maxRecDepth 100000 in
theorem used_cl (g : Nat) (f : Int → Nat) (j : Nat) (w : World) (h : Blk w g 42 (tal f)) (hj : j < 64) :
    Calls Try.prog 31 #[.int .i64 ((j : Int) + 1), .pointer (some ⟨g, 0, none⟩)] w fun e w' => e = .returned (.bool (decide (0 < f ((j : Int) + 1)))) ∧ w = w' := by
  have c0 := h.cell (j + 1)
  rw [tal_get f (by omega) (by omega), show ((j + 1 : Nat) : Int) = (j : Int) + 1 from rfl] at c0
  have b65 : ¬ (65 : Int) ≤ (j : Int) + 1 := by omega
  obtain ⟨t, ht⟩ : ∃ t, f ((j : Int) + 1) = t := ⟨_, rfl⟩
  rw [ht] at c0 ⊢
  clear h ht
  go_enter Try.func31, Try.ntmps31
  go_wp2
  go_ret
  exact ⟨by simp, rfl⟩

set_option maxHeartbeats 1000000 in
set_option maxRecDepth 100000 in
theorem used_r (f : Int → Nat) (w : World) : Calls Try.prog 29 #[.agg (tal f)] w fun e w' => e = .returned (.int .i64 ((thatN (fun j => decide (0 < f ((j : Int) + 1))) 64).length : Nat)) ∧ Below w.heap.size w w' := by
  have hmf : ∀ (fn : Fn) (first cap : Array Value) (w : World), (Instr.makeFunc fn first cap).run Try.prog w = .ok (.func fn first cap) w := fun _ _ _ _ => rfl
  have hne := tal_ne f
  have hb0 : Below w.heap.size w (w.alloc (.cells (tal f) 42)) := (Below.refl _ _).alloc (Nat.le_refl _) _
  have HT := Lib.hid (that_r 31 #[.pointer (some ⟨w.heap.size, 0, none⟩)] (fun j => decide (0 < f ((j : Int) + 1))) (w.alloc (.cells (tal f) 42)) (fun _ _ => rfl)
    (fun wr j hb hj => used_cl w.heap.size f j wr ((Blk.new w (tal f) 42).below hb (by simp)) hj))
  go_enter Try.func29, Try.ntmps29
  go_wp2_with fail
  refine HT.out.mono ?_
  rintro _ w2 ⟨A, c, rfl, _, hb2⟩
  have hbw := hb0.trans (hb2.mono (by simp))
  go_wp2
  go_ret
  exact ⟨rfl, hbw⟩

set_option maxHeartbeats 2000000 in
set_option maxRecDepth 100000 in
theorem count_r (A : Option Addr) (n c : Nat) (l : List Snp) (S : List (Option Addr × Nat)) (w : World) (h : RdS w w.heap.size A n l S) (hnc : n ≤ c) (hmax : c ≤ 9223372036854775807) (hm : many l ≤ 1000000000) (hw : ∀ a ∈ l, Snok a) :
    Calls Try.prog 23 #[.slice A n c] w fun e w' => e = .returned (.agg (tal (cnt l))) ∧ Below w.heap.size w w' := by
  have HR := Lib.hid h
  have HL := Lib.hid h.1
  have HM := Lib.hid hm
  have HW := Lib.hid hw
  obtain ⟨g, hg⟩ : ∃ g, g = w.heap.size := ⟨_, rfl⟩
  have HG := Lib.hid hg
  obtain ⟨w0, hw0⟩ : ∃ w0 : World, w0 = (w.alloc (.cells (tal fun _ => 0) 42)).alloc (.cells (tal fun _ => 0) 42) := ⟨_, rfl⟩
  have HW0 := Lib.hid hw0
  have hb0 : Below w.heap.size w w0 := by rw [hw0]; exact ((Below.refl _ _).alloc (Nat.le_refl _) _).alloc (by simp) _
  have hk0 : Blk w0 g 42 (tal fun _ => 0) := by rw [hw0, hg]; exact (Blk.new _ _ _).alloc _
  have hk1 : Blk w0 (g + 1) 42 (tal fun _ => 0) := by rw [hw0, hg]; simpa using Blk.new (w.alloc (.cells (tal fun _ => 0) 42)) (tal fun _ => 0) 42
  have HK0 := Lib.hid hk0
  have HK1 := Lib.hid hk1
  have hz := tally_zero
  have hne := tal_ne fun _ => 0
  clear h hm hw hw0 hk0 hk1
  go_enter Try.func23, Try.ntmps23
  go_upto_region 2 with fail
  rw [show (w.alloc (.cells (tal fun _ => 0) 42)).alloc (.cells (tal fun _ => 0) 42) = w0 from HW0.out.symm, ← hg]
  clear hg hz hne
  go_wp2
  go_loopw [8] (fun i wr => ∃ j : Nat, j ≤ n ∧ i = .int .i64 (j : Int) ∧ Blk wr g 42 (tal fun _ => 0) ∧ Blk wr (g + 1) 42 (tal (cnt (l.take j))) ∧ Below w.heap.size w wr) (fun i _ => n - (intOf i).toNat)
  case atStart =>
    refine ⟨0, Nat.zero_le _, rfl, HK0.out, ?_, hb0⟩
    rw [show tal (cnt (l.take 0)) = tal fun _ => 0 from tal_ext fun _ _ _ => rfl]
    exact HK1.out
  case round =>
    obtain ⟨j, hj, rfl, hk0, hk1, hb⟩ := hrel
    have HKR := Lib.hid hk0
    have HKN := Lib.hid hk1
    have hs1 := hk1.lt
    clear hk0 hk1
    by_cases hlt : j < n
    · obtain ⟨ad, a, s, rfl, hab, ha, hs, g0, g1, g2, g3, g4, hrd, hsc, hsm⟩ := rds_get (HR.out.below hb) hlt
      have hok := HW.out a (List.mem_of_getElem? ha)
      have HE := Lib.hid (show tal (cnt (l.take (j + 1))) = tal (fun x => cnt (l.take j) x + a.chunks.count x) from tal_ext fun i _ _ => Rf.cnt_take ha _)
      have hmany := Rf.many_mem ha
      have hle := fun x => Rf.cnt_le (l.take j) x
      have hbd : ∀ x, cnt (l.take j) x + a.chunks.length ≤ 2000000000 := fun x => by have := hle x; have := HM.out; omega
      obtain ⟨w1, hw1⟩ : ∃ w1 : World, w1 = wr.alloc (.cells #[.int .i64 a.id, .int .i64 a.set, .slice s.1 a.chunks.length s.2, .bool a.held, .string (strOf a.tag)] 36) := ⟨_, rfl⟩
      have hb1 : Below wr.heap.size wr w1 := by rw [hw1]; exact (Below.refl _ _).alloc (Nat.le_refl _) _
      have hk1 : Blk w1 (g + 1) 42 (tal (cnt (l.take j))) := HKN.out.below hb1 hs1
      have hrd1 : Rd w1 (g + 1) 1 s.1 a.chunks.length (ivs a.chunks) := (hrd.below (hb1.mono hb.size)).more (by rw [HG.out]; omega)
      have HADD := Lib.hid (add_r (g + 1) (cnt (l.take j)) s.1 a.chunks.length s.2 a.chunks w1 hk1 hrd1 hsc hsm hok.2.2.1 hbd)
      have HKR1 := Lib.hid (HKR.out.below hb1 HKR.out.lt)
      have HW1 := Lib.hid hw1
      clear hk1 hrd1 hmany hle hbd ha hs hrd hok hw1
      go_upto_region 5 with fail
      rw [show wr.alloc (.cells #[.int .i64 a.id, .int .i64 a.set, .slice s.1 a.chunks.length s.2, .bool a.held, .string (strOf a.tag)] 36) = w1 from HW1.out.symm]
      have hblk : Blk w1 wr.heap.size 36 #[.int .i64 a.id, .int .i64 a.set, .slice s.1 a.chunks.length s.2, .bool a.held, .string (strOf a.tag)] := by rw [HW1.out]; exact Blk.new _ _ _
      have c2 := hblk.cell 2
      simp at c2
      clear hblk g0 g1 g2 g3 g4
      go_wp2_with fail
      refine HADD.out.mono ?_
      rintro _ w2 ⟨rfl, hk2, hb2, hsz2⟩
      have hbw2 := (hb.trans (hb1.mono hb.size)).trans (hb2.mono (by rw [HG.out]; omega))
      have HK2 := Lib.hid hk2
      have HKR2 := Lib.hid (HKR1.out.below hb2 (by omega))
      clear hk2 hsz2
      go_wp2
      go_roundw
      case rel => exact ⟨j + 1, by omega, by go_num, HKR2.out, by rw [HE.out]; exact HK2.out, hbw2⟩
      case measure => simp [intOf]; omega
    · obtain rfl : j = n := by omega
      have hfull : l.take j = l := List.take_of_length_le (by have := HL.out; omega)
      rw [hfull] at HKN
      clear hfull
      have HBR := Lib.hid (row_blk HKR.out (tal (cnt l)))
      have hbe := hb.grown HBR.out.2 hb.size (fun k hk => by injection hk with hk; have := HG.out; omega)
      go_upto_region 7 with fail
      go_wp2_with (first
        | (refine wpList_load_row rfl 42 (.tmp 3) rfl (g + 1) rfl _ (tal (cnt l)) (0, 0) _ HKN.out Try.underlying42 rfl (by rw [tal_size]; exact tally_size) ?_)
        | (refine wpList_store_row rfl 42 (.tmp 2) (.tmp 16) rfl g (tal (cnt l)) rfl rfl _ _ HKR.out (by rw [tal_size]; exact tally_size) (by rw [tal_size, tal_size]) (tal_one _) ?_))
      (try simp only [Exit.inBlock, Exit.then])
      exact bodyPost_ret (results_cell_row rfl _ _ g 42 (tal (cnt l)) (0, 0) _ rfl HBR.out.1 Try.underlying42 rfl (by rw [tal_size]; exact tally_size)) rfl ⟨rfl, hbe⟩
end Go.Proofs.Ytcbfcjpmoechlaa
