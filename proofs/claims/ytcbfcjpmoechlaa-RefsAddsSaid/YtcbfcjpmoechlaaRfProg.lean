/-
  The walks of the landed refs.
-/
import Derived.Test.YtcbfcjpmoechlaaRfTally
import Derived.Test.YtcbfcjpmoechlaaRfOwn
import Derived.Test.YtcbfcjpmoechlaaClone
set_option linter.unusedVariables false
set_option linter.unusedSimpArgs false
namespace Go.Proofs.Ytcbfcjpmoechlaa
open Go.RowKit
open Rf (Snp cnt many counts has distinctN without freed freedN withC one)

theorem that_used (l : List Snp) : (thatN (fun j => decide (0 < cnt l ((j : Int) + 1))) 64).length = Rf.distinct l := by
  unfold thatN Rf.distinct distinctN
  rw [List.length_map, List.countP_eq_length_filter]
  rfl
theorem that_freed (l : List Snp) (id : Int) : thatN (fun j => decide (0 < cnt l ((j : Int) + 1)) && decide (cnt (without l id) ((j : Int) + 1) = 0)) 64 = freed l id := by
  unfold thatN freed freedN
  congr 2
  funext j
  unfold has
  congr 1
  by_cases h : cnt (without l id) ((j : Int) + 1) = 0
  · simp [h]
  · rw [decide_eq_false h, decide_eq_true (by omega)]; rfl

set_option maxHeartbeats 1000000 in
set_option maxRecDepth 100000 in
theorem counts_r (A : Option Addr) (n c : Nat) (l : List Snp) (S : List (Option Addr × Nat)) (w : World) (h : RdS w w.heap.size A n l S) (hnc : n ≤ c) (hmax : c ≤ 9223372036854775807) (_hn : n ≤ 1000000) (hm : many l ≤ 1000000000) (hw : ∀ a ∈ l, Snok a) :
    Calls Try.prog 12 #[.slice A n c] w fun e w' => ∃ v, e = .returned v ∧ NewNums w' (counts l) v ∧ Below w.heap.size w w' := by
  have HC := Lib.hid (count_r A n c l S w h hnc hmax hm hw)
  have hz := tally_zero
  have hne := tal_ne fun _ => 0
  clear h hm hw
  go_enter Try.func12, Try.ntmps12
  go_wp2_with fail
  refine HC.out.mono ?_
  rintro _ w1 ⟨rfl, hb1⟩
  clear HC
  go_wp2_with (refine wpList_store_row rfl 42 (.tmp 3) (.tmp 5) rfl w1.heap.size (tal (cnt l)) rfl rfl _ _ (heap_alloc_new w1 _) (by rw [tal_size]; exact tally_size) (by rw [tal_size, tal_size]) (tal_one _) ?_)
  rw [World.setRow_alloc_new]
  have hN : NewNums (w1.alloc (.cells (tal (cnt l)) 42)) (counts l) (.slice (some ⟨w1.heap.size, 0, none⟩) 65 65) := by
    refine ⟨_, 65, 65, rfl, Nat.le_refl _, by omega, Rf.counts_len l, ?_⟩
    have hblk := Blk.new w1 (tal (cnt l)) 42
    rw [show tal (cnt l) = (ivs (counts l)).toArray by rw [← tal_counts]] at hblk ⊢
    exact (rd_of_blk (sz := 1) hblk (by rw [ivs_len, Rf.counts_len])).more (by simp)
  have HN := Lib.hid hN
  have hbw := hb1.alloc hb1.size (.cells (tal (cnt l)) 42)
  clear hN hz hne
  go_ret
  exact ⟨_, rfl, HN.out, hbw⟩
theorem distinct_r (A : Option Addr) (n c : Nat) (l : List Snp) (S : List (Option Addr × Nat)) (w : World) (h : RdS w w.heap.size A n l S) (hnc : n ≤ c) (hmax : c ≤ 9223372036854775807) (_hn : n ≤ 1000000) (hm : many l ≤ 1000000000) (hw : ∀ a ∈ l, Snok a) :
    Calls Try.prog 19 #[.slice A n c] w fun e w' => e = .returned (.int .i64 (Rf.distinct l : Nat)) ∧ Below w.heap.size w w' := by
  have HC := Lib.hid (count_r A n c l S w h hnc hmax hm hw)
  have HU := Lib.hid (fun w => used_r (cnt l) w)
  rw [that_used] at HU
  clear h hm hw
  go_enter Try.func19, Try.ntmps19
  go_wp2_with fail
  refine HC.out.mono ?_
  rintro _ w1 ⟨rfl, hb1⟩
  clear HC
  go_wp2_with fail
  refine (HU.out w1).mono ?_
  rintro _ w2 ⟨rfl, hb2⟩
  have hbw := hb1.trans (hb2.mono hb1.size)
  go_wp2
  go_ret
  exact ⟨rfl, hbw⟩

set_option maxHeartbeats 1000000 in
set_option maxRecDepth 100000 in
theorem with_r (A A' : Option Addr) (n n' c c' : Nat) (l : List Snp) (S : List (Option Addr × Nat)) (ch : List Int) (w : World) (h : RdS w w.heap.size A n l S) (hnc : n ≤ c) (hmax : c ≤ 9223372036854775807) (_hn : n ≤ 1000000) (h' : Rd w w.heap.size 1 A' n' (ivs ch)) (hnc' : n' ≤ c') (hmax' : c' ≤ 9223372036854775807) (hm : many l + ch.length ≤ 1000000000)
    (hw : ∀ a ∈ l, Snok a) (hi : ∀ x ∈ ch, I64 x) :
    Calls Try.prog 21 #[.slice A n c, .slice A' n' c'] w fun e w' => e = .returned (.int .i64 (withC l ch : Nat)) ∧ Below w.heap.size w w' := by
  have hlen : ch.length = n' := by have := h'.1; rw [ivs_len] at this; omega
  have HC := Lib.hid (count_r A n c l S w h hnc hmax (by omega) hw)
  have hbd : ∀ x, cnt l x + n' ≤ 2000000000 := fun x => by have := Rf.cnt_le l x; omega
  have HA := Lib.hid (fun (g : Nat) (w : World) hk h => add_r g (cnt l) A' n' c' ch w hk h hnc' hmax' hi hbd)
  have HE := Lib.hid (show tal (fun x => cnt l x + ch.count x) = tal (cnt (l ++ [one ch])) from tal_ext fun i _ _ => by rw [Rf.cnt_app, Rf.cnt_one]; rfl)
  have HU := Lib.hid (fun w => used_r (cnt (l ++ [one ch])) w)
  rw [that_used] at HU
  have HR := Lib.hid h'
  have hz := tally_zero
  have hne := tal_ne fun _ => 0
  clear h h' hm hw hi hlen hbd
  go_enter Try.func21, Try.ntmps21
  go_wp2_with fail
  refine HC.out.mono ?_
  rintro _ w1 ⟨rfl, hb1⟩
  clear HC
  go_wp2_with (refine wpList_store_row rfl 42 (.tmp 5) (.tmp 7) rfl w1.heap.size (tal (cnt l)) rfl rfl _ _ (heap_alloc_new w1 _) (by rw [tal_size]; exact tally_size) (by rw [tal_size, tal_size]) (tal_one _) ?_)
  rw [World.setRow_alloc_new]
  have hb2 := hb1.alloc hb1.size (.cells (tal (cnt l)) 42)
  refine (HA.out w1.heap.size (w1.alloc (.cells (tal (cnt l)) 42)) (Blk.new _ _ _) ((HR.out.below hb2).more hb1.size)).mono ?_
  rintro _ w2 ⟨rfl, hk2, hb3, hsz2⟩
  rw [HE.out] at hk2
  have HK2 := Lib.hid hk2
  have hbw := hb2.trans (hb3.mono hb1.size)
  clear hk2 hsz2 hz hne
  go_wp2_with (refine wpList_load_row rfl 42 (.tmp 5) rfl w1.heap.size rfl _ (tal (cnt (l ++ [one ch]))) (0, 0) _ HK2.out Try.underlying42 rfl (by rw [tal_size]; exact tally_size) ?_)
  refine (HU.out w2).mono ?_
  rintro _ w4 ⟨rfl, hb4⟩
  have hbe := hbw.trans (hb4.mono hbw.size)
  go_wp2
  go_ret
  exact ⟨rfl, hbe⟩

set_option maxHeartbeats 1000000 in
set_option maxRecDepth 100000 in
theorem without_own_r (A : Option Addr) (n c : Nat) (l : List Snp) (S : List (Option Addr × Nat)) (id : Int) (w : World) (h : RdS w w.heap.size A n l S) (hnc : n ≤ c) (hmax : c ≤ 9223372036854775807) (hn : n ≤ 1000000) (hm : many l ≤ 1000000000) :
    Calls Try.prog 17 #[.slice A n c, .int .i64 id] w fun e w' => ∃ v T, e = .returned v ∧ OwnS w' w.heap.size v (without l id) T ∧ Below w.heap.size w w' := by
  obtain ⟨i0, hi, hz0, hz1, hz2⟩ := info_parts snap_info
  have HR := Lib.hid h
  have HL := Lib.hid h.1
  have HM := Lib.hid hm
  clear h hm
  go_enter Try.func17, Try.ntmps17
  go_wp2
  go_loopw [5, 10] (fun v i wr => ∃ (j : Nat) (T : List (Option Addr × Nat)), j ≤ n ∧ i = .int .i64 (j : Int) ∧ OwnS wr w.heap.size v (without (l.take j) id) T ∧ Below w.heap.size w wr) (fun _ i _ => n - (intOf i).toNat)
  case atStart => exact ⟨0, [], Nat.zero_le _, rfl, OwnS.nil _ _, Below.refl _ _⟩
  case round =>
    obtain ⟨j, T, hj, rfl, hown, hb⟩ := hrel
    have HO := Lib.hid hown
    have hsz := hb.size
    clear hown
    by_cases hlt : j < n
    · obtain ⟨ad, a, s, rfl, hab, ha, hs, g0, g1, g2, g3, g4, hrd, hs1, hs2⟩ := rds_get (HR.out.below hb) hlt
      have hE := Rf.without_take ha id
      have hmn := Rf.many_mem ha
      have hchn : a.chunks.length ≤ 1000000000 := by have := HM.out; omega
      obtain ⟨w1, hw1⟩ : ∃ w1 : World, w1 = wr.alloc (.cells #[.int .i64 a.id, .int .i64 a.set, .slice s.1 a.chunks.length s.2, .bool a.held, .string (strOf a.tag)] 36) := ⟨_, rfl⟩
      have HW1 := Lib.hid hw1
      have hb1 : Below wr.heap.size wr w1 := by rw [hw1]; exact (Below.refl _ _).alloc (Nat.le_refl _) _
      have hblk : Blk w1 wr.heap.size 36 (sncells a s).toArray := by rw [hw1]; exact Blk.new _ _ _
      have hsz1 : w1.heap.size = wr.heap.size + 1 := by rw [hw1]; simp
      have HC := Lib.hid (clone_ints s.1 a.chunks.length s.2 a.chunks w1 ((hrd.below (hb1.mono hsz)).more (by omega)) hs1 hs2 hchn)
      have HB := Lib.hid hblk
      have c0 := hblk.cell 0
      have c2 := hblk.cell 2
      simp [sncells] at c0 c2
      by_cases hid : a.id = id
      · rw [if_pos hid, List.append_nil] at hE
        have HE := Lib.hid hE
        have q : (a.id != id) = false := by rw [hid]; simp
        clear ha hs hE hid hrd hblk hw1 hsz1 hmn hchn HC
        go_upto_region 5 with fail
        rw [show wr.alloc (.cells #[.int .i64 a.id, .int .i64 a.set, .slice s.1 a.chunks.length s.2, .bool a.held, .string (strOf a.tag)] 36) = w1 from HW1.out.symm]
        clear g0 g1 g2 g3 g4
        have hbw := hb.trans (hb1.mono hsz)
        go_wp2
        go_roundw
        case rel => exact ⟨j + 1, T, by omega, by go_num, by rw [HE.out]; exact HO.out.below hb1, hbw⟩
        case measure => simp [intOf]; omega
      · rw [if_neg hid] at hE
        have HE := Lib.hid hE
        have q : (a.id != id) = true := by rw [bne_iff_ne]; exact hid
        clear ha hs hE hid hrd hblk hw1 hmn hchn
        have HSZ1 := Lib.hid hsz1
        clear hsz1
        go_upto_region 5 with fail
        rw [show wr.alloc (.cells #[.int .i64 a.id, .int .i64 a.set, .slice s.1 a.chunks.length s.2, .bool a.held, .string (strOf a.tag)] 36) = w1 from HW1.out.symm]
        clear g0 g1 g2 g3 g4
        go_wp2_with fail
        refine HC.out.mono ?_
        rintro _ w2 ⟨v2, rfl, hown2, hb2⟩
        obtain ⟨A2, c2', rfl, h21, h22⟩ := slice_of_own hown2
        have hblk2 : Blk w2 wr.heap.size 36 (sncells a s).toArray := HB.out.below hb2 HB.out.lt
        obtain ⟨w3, hw3⟩ : ∃ w3 : World, w3 = w2.setCell ⟨wr.heap.size, 2, none⟩ (.slice A2 a.chunks.length c2') := ⟨_, rfl⟩
        have hblk3 : Blk w3 wr.heap.size 36 (sncells a (A2, c2')).toArray := by
          rw [hw3]
          simpa [sncells] using hblk2.put 2 (.slice A2 a.chunks.length c2')
        have x2 := hblk2.cell 2
        simp [sncells] at x2
        have f2 := hblk2.frozen 2
        have HB3 := Lib.hid hblk3
        have HO2 := Lib.hid hown2
        have HW3 := Lib.hid hw3
        have hb12 : Below wr.heap.size wr w3 := by rw [hw3]; exact (hb1.trans (hb2.mono hb1.size)).setCell (Nat.le_refl _) _
        have hbw3 := hb.trans (hb12.mono hsz)
        have hsz3 := hbw3.size
        have hrow3 := Lib.hid (own_below HO.out.row hb12)
        have hlw := Rf.without_len (l.take j) id
        rw [List.length_take] at hlw
        clear hblk2 hblk3 hown2 hw3 HC c0 c2
        go_upto_region 7 with fail
        rw [show w2.setCell ⟨wr.heap.size, 2, none⟩ (.slice A2 a.chunks.length c2') = w3 from HW3.out.symm]
        have y0 := HB3.out.cell 0
        have y1 := HB3.out.cell 1
        have y2 := HB3.out.cell 2
        have y3 := HB3.out.cell 3
        have y4 := HB3.out.cell 4
        simp [sncells] at y0 y1 y2 y3 y4
        clear x2 f2
        go_wp2_with (at_builtin; refine wpList_append_rd _ rfl (.tmp 22) (.tmp 24) 22 rfl w.heap.size 36 i0 (.agg #[.int .i64 0, .int .i64 0, .slice none 0 0, .bool false, .string (strOf [])]) 5 64 Try.underlying22 hi hz0 hz1 hz2 rfl (by decide) _ (without (l.take j) id).length _ rfl (hrow3.out.alloc _) (w3.heap.size + 1) (some ⟨w3.heap.size, 0, none⟩) 1 1 (sncells a (A2, c2')) rfl (rd_cells w3 (sncells a (A2, c2')) 36 rfl) (sn_one a (A2, c2')) (by unfold maxLen; omega) (by omega) (by simp; omega) ?_)
        intro v4 w4 hown4 hg4
        have hb4 : Below w.heap.size w w4 := (hbw3.alloc hsz3 _).grown hg4 (by simp; omega) (fun k hk => (hrow3.out.lt k hk).1)
        have hpush : OwnS w4 w.heap.size v4 (without (l.take (j + 1)) id) (T ++ [(A2, c2')]) := by
          rw [HE.out]
          refine HO.out.push (o := .cells #[.int .i64 a.id, .int .i64 a.set, .slice s.1 a.chunks.length s.2, .bool a.held, .string (strOf a.tag)] 36) hsz (w1 := w2) (by rw [← HW1.out, ← HSZ1.out]; exact hb2) (by rw [← HSZ1.out]; exact HO2.out) hown4 (by rw [← HW3.out]; exact hg4)
        have HP := Lib.hid hpush
        clear hpush hown4 hg4 y0 y1 y2 y3 y4
        go_wp2
        go_roundw
        case rel => exact ⟨j + 1, T ++ [(A2, c2')], by omega, by go_num, HP.out, hb4⟩
        case measure => simp [intOf]; omega
    · obtain rfl : j = n := by omega
      have hfull : l.take j = l := List.take_of_length_le (by have := HL.out; omega)
      rw [hfull] at HO
      clear hfull
      go_wp2
      go_ret
      exact ⟨_, T, rfl, HO.out, hb⟩
theorem without_r (A : Option Addr) (n c : Nat) (l : List Snp) (S : List (Option Addr × Nat)) (id : Int) (w : World) (h : RdS w w.heap.size A n l S) (hnc : n ≤ c) (hmax : c ≤ 9223372036854775807) (hn : n ≤ 1000000) (hm : many l ≤ 1000000000) (_hw : ∀ a ∈ l, Snok a) (_hi : I64 id) :
    Calls Try.prog 17 #[.slice A n c, .int .i64 id] w fun e w' => ∃ v, e = .returned v ∧ NewSnaps w' (without l id) v ∧ Below w.heap.size w w' := by
  refine (without_own_r A n c l S id w h hnc hmax hn hm).mono ?_
  rintro e w' ⟨v, T, rfl, ho, hb⟩
  exact ⟨v, rfl, ho.snaps, hb⟩

set_option maxRecDepth 100000 in
theorem freed_cl (g : Nat) (f h : Int → Nat) (j : Nat) (w : World) (hf : Blk w g 42 (tal f)) (hh : Blk w (g + 1) 42 (tal h)) (hj : j < 64) :
    Calls Try.prog 26 #[.int .i64 ((j : Int) + 1), .pointer (some ⟨g, 0, none⟩), .pointer (some ⟨g + 1, 0, none⟩)] w fun e w' => e = .returned (.bool (decide (0 < f ((j : Int) + 1)) && decide (h ((j : Int) + 1) = 0))) ∧ w = w' := by
  have c0 := hf.cell (j + 1)
  have c1 := hh.cell (j + 1)
  rw [tal_get _ (by omega) (by omega), show ((j + 1 : Nat) : Int) = (j : Int) + 1 from rfl] at c0 c1
  have b65 : ¬ (65 : Int) ≤ (j : Int) + 1 := by omega
  obtain ⟨t, ht⟩ : ∃ t, f ((j : Int) + 1) = t := ⟨_, rfl⟩
  obtain ⟨u, hu⟩ : ∃ u, h ((j : Int) + 1) = u := ⟨_, rfl⟩
  rw [ht] at c0 ⊢
  rw [hu] at c1 ⊢
  clear hf hh ht hu
  by_cases h0 : 0 < t
  · by_cases h1 : u = 0
    · subst h1
      go_enter Try.func26, Try.ntmps26
      go_wp2
      go_ret
      exact ⟨by simp [h0], rfl⟩
    · have q : ((u : Int) == 0) = false := by rw [beq_eq_false_iff_ne]; omega
      go_enter Try.func26, Try.ntmps26
      go_wp2
      go_ret
      exact ⟨by simp [h1], rfl⟩
  · obtain rfl : t = 0 := by omega
    go_enter Try.func26, Try.ntmps26
    go_wp2
    go_ret
    exact ⟨by simp, rfl⟩

set_option maxHeartbeats 1000000 in
set_option maxRecDepth 100000 in
theorem freed_r (A : Option Addr) (n c : Nat) (l : List Snp) (S : List (Option Addr × Nat)) (id : Int) (w : World) (h : RdS w w.heap.size A n l S) (hnc : n ≤ c) (hmax : c ≤ 9223372036854775807) (hn : n ≤ 1000000) (hm : many l ≤ 1000000000) (hw : ∀ a ∈ l, Snok a) (hi : I64 id) :
    Calls Try.prog 14 #[.slice A n c, .int .i64 id] w fun e w' => ∃ v, e = .returned v ∧ NewNums w' (freed l id) v ∧ Below w.heap.size w w' := by
  have hmf : ∀ (fn : Fn) (first cap : Array Value) (w : World), (Instr.makeFunc fn first cap).run Try.prog w = .ok (.func fn first cap) w := fun _ _ _ _ => rfl
  have HC := Lib.hid (count_r A n c l S w h hnc hmax hm hw)
  have HWO := Lib.hid (fun w h => without_r A n c l S id w h hnc hmax hn hm hw hi)
  have HCW := Lib.hid (fun A' n' c' S' w h h1 h2 => count_r A' n' c' (without l id) S' w h h1 h2 (Nat.le_trans (Rf.many_without l id) hm) (fun a ha => hw a (List.mem_filter.1 ha).1))
  have HT := Lib.hid (fun g w hc => that_r 26 #[.pointer (some ⟨g, 0, none⟩), .pointer (some ⟨g + 1, 0, none⟩)] (fun j => decide (0 < cnt l ((j : Int) + 1)) && decide (cnt (without l id) ((j : Int) + 1) = 0)) w (fun _ _ => rfl) hc)
  rw [that_freed] at HT
  have HR := Lib.hid h
  have hz := tally_zero
  have hne := tal_ne fun _ => 0
  clear h hm hw hi
  go_enter Try.func14, Try.ntmps14
  go_wp2_with fail
  refine HC.out.mono ?_
  rintro _ w1 ⟨rfl, hb1⟩
  clear HC
  go_wp2_with fail
  refine (HWO.out w1 ((HR.out.below hb1).more hb1.size)).mono ?_
  rintro _ w2 ⟨_, rfl, ⟨A2, n2, c2, S2, rfl, h21, h22, hr2⟩, hb2⟩
  have hbw2 := hb1.trans (hb2.mono hb1.size)
  have HC2 := Lib.hid (HCW.out A2 n2 c2 S2 w2 hr2 h21 h22)
  clear hr2 HWO
  go_wp2_with fail
  refine HC2.out.mono ?_
  rintro _ w3 ⟨rfl, hb3⟩
  have hbw3 := hbw2.trans (hb3.mono hbw2.size)
  clear HC2 HCW
  obtain ⟨w4, hw4⟩ : ∃ w4 : World, w4 = (w3.alloc (.cells (tal fun _ => 0) 42)).alloc (.cells (tal fun _ => 0) 42) := ⟨_, rfl⟩
  have HW4 := Lib.hid hw4
  have hb4 : Below w3.heap.size w3 w4 := by rw [hw4]; exact ((Below.refl _ _).alloc (Nat.le_refl _) _).alloc (by simp) _
  have hk0 : Blk w4 w3.heap.size 42 (tal fun _ => 0) := by rw [hw4]; exact (Blk.new _ _ _).alloc _
  have hk1 : Blk w4 (w3.heap.size + 1) 42 (tal fun _ => 0) := by rw [hw4]; simpa using Blk.new (w3.alloc (.cells (tal fun _ => 0) 42)) (tal fun _ => 0) 42
  obtain ⟨hk2, hg2⟩ := row_blk hk0 (tal (cnt l))
  have hk3 : Blk (w4.setRow w3.heap.size (tal (cnt l))) (w3.heap.size + 1) 42 (tal fun _ => 0) := (hg2.block _ hk1.lt (fun e => by injection e with e; omega)).trans hk1
  obtain ⟨hk5, hg5⟩ := row_blk hk3 (tal (cnt (without l id)))
  have hk6 : Blk ((w4.setRow w3.heap.size (tal (cnt l))).setRow (w3.heap.size + 1) (tal (cnt (without l id)))) w3.heap.size 42 (tal (cnt l)) := (hg5.block _ hk2.lt (fun e => by injection e with e; omega)).trans hk2
  have hb5 : Below w3.heap.size w3 ((w4.setRow w3.heap.size (tal (cnt l))).setRow (w3.heap.size + 1) (tal (cnt (without l id)))) :=
    (hb4.grown hg2 hb4.size (fun k hk => by injection hk with hk; omega)).grown hg5 (Nat.le_trans hb4.size hg2.size) (fun k hk => by injection hk with hk; omega)
  have HK0 := Lib.hid hk0
  have HK3 := Lib.hid hk3
  obtain ⟨w5, hw5⟩ : ∃ w5 : World, w5 = (w4.setRow w3.heap.size (tal (cnt l))).setRow (w3.heap.size + 1) (tal (cnt (without l id))) := ⟨_, rfl⟩
  have HW5 := Lib.hid hw5
  rw [← hw5] at hk5 hk6 hb5
  have HT5 := Lib.hid (HT.out w3.heap.size w5 (fun wr j hb hj => freed_cl w3.heap.size (cnt l) (cnt (without l id)) j wr (hk6.below hb hk6.lt) (hk5.below hb hk5.lt) hj))
  have hbw5 := hbw3.trans (hb5.mono hbw3.size)
  clear HT hw4 hk0 hk1 hk2 hk3 hk5 hk6 hg2 hg5 hw5
  go_wp2_with (first
    | (refine wpList_store_row rfl 42 (.tmp 5) (.tmp 8) rfl w3.heap.size (tal (cnt l)) rfl rfl _ _ (by rw [← HW4.out]; exact HK0.out) (by rw [tal_size]; exact tally_size) (by rw [tal_size, tal_size]) (tal_one _) ?_)
    | (refine wpList_store_row rfl 42 (.tmp 6) (.tmp 12) rfl (w3.heap.size + 1) (tal (cnt (without l id))) rfl rfl _ _ (by rw [← HW4.out]; exact HK3.out) (by rw [tal_size]; exact tally_size) (by rw [tal_size, tal_size]) (tal_one _) ?_))
  rw [← HW4.out, ← HW5.out]
  refine HT5.out.mono ?_
  rintro _ w6 ⟨A6, c6, rfl, hN, hb6⟩
  have HN := Lib.hid hN
  have hbe := hbw5.trans (hb6.mono hbw5.size)
  clear hN hz hne
  go_wp2
  go_ret
  exact ⟨_, rfl, HN.out, hbe⟩
end Go.Proofs.Ytcbfcjpmoechlaa
