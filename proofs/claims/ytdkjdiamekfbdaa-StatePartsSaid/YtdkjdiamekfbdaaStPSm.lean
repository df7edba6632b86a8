/-
  The walks of the landed state's small helpers: within, numbersOf, mayNumbers, isRow, maySess, mayOpens, maySnaps and their closures.
-/
import Derived.Test.YtdkjdiamekfbdaaStGenSe
import Derived.Test.YtdkjdiamekfbdaaStGenOp
import Derived.Test.YtdkjdiamekfbdaaStGenSn
import Derived.Test.YtdkjdiamekfbdaaCmChunkC
namespace Go.Proofs.Ytdkjdiamekfbdaa
open Go.RowKit
open Rf (Snp)
open Cm (inR row chunksB)
open St (Ses Opn Sta riseK sesAll opnAll snpAll mostText mostQuota numS sesS opnS snpS)

set_option maxRecDepth 100000 in
theorem within_any (x a b : Int) (w : World) : Calls Try.prog 32 #[.int .i64 x, .int .i64 a, .int .i64 b] w fun e w' => e = .returned (.bool (inR x a b)) ∧ w = w' := by
  by_cases h1 : a ≤ x
  · by_cases h2 : x ≤ b
    · have HV := Lib.hid (show inR x a b = true by simp [inR, h1, h2])
      go_enter Try.func32, Try.ntmps32
      go_wp2_with fail
      go_ret
      exact ⟨by rw [HV.out]; rfl, rfl⟩
    · have HV := Lib.hid (show inR x a b = false by simp [inR, h1, h2])
      go_enter Try.func32, Try.ntmps32
      go_wp2_with fail
      go_ret
      exact ⟨by rw [HV.out]; rfl, rfl⟩
  · have HV := Lib.hid (show inR x a b = false by simp [inR, h1])
    go_enter Try.func32, Try.ntmps32
    go_wp2_with fail
    go_ret
    exact ⟨by rw [HV.out]; rfl, rfl⟩
theorem within_e {x a b : Int} {v : Bool} (h : inR x a b = v) (w : World) : Calls Try.prog 32 #[.int .i64 x, .int .i64 a, .int .i64 b] w fun e w' => e = .returned (.bool v) ∧ w = w' :=
  (within_any x a b w).mono fun _ _ hh => ⟨by rw [hh.1, h], hh.2⟩
theorem hidB (b : Bool) : ∃ B, Hid (b = B) := ⟨b, Lib.hid rfl⟩

def nagg (s : Sta) : Value := .agg #[.int .i64 s.version, .int .i64 s.next, .int .i64 s.keep, .int .i64 s.quota]
set_option maxRecDepth 100000 in
theorem numbersOf_c (s : Sta) (p : Pls) (w : World) : Calls Try.prog 27 #[stagg s p] w fun e w' => e = .returned (nagg s) ∧ Below w.heap.size w w' := by
  unfold stagg stblk nagg
  go_enter Try.func27, Try.ntmps27
  go_wp2
  (try simp only [Exit.inBlock, Exit.then])
  refine bodyPost_ret (results_cell_row rfl _ _ (w.heap.size + 1) 49 #[.int .i64 s.version, .int .i64 s.next, .int .i64 s.keep, .int .i64 s.quota] (0, 0) _ rfl (by simpa using heap_alloc_new (w.alloc _) _) Try.underlying49 rfl (by kernel_rfl)) rfl ?_
  exact ⟨rfl, ((Below.refl _ _).alloc (Nat.le_refl _) _).alloc (by simp) _⟩

set_option maxHeartbeats 1000000 in
set_option maxRecDepth 100000 in
theorem mayNumbers_c (s : Sta) (v : Int) (w : World) : Calls Try.prog 33 #[nagg s, .int .i64 v] w fun e w' => e = .returned (.bool (numS s v)) ∧ Below w.heap.size w w' := by
  have hN : numS s v = (inR s.version 1 3 && (inR s.next 1 1048576 && (inR s.keep 0 8 && inR s.quota 0 (mostQuota v)))) := rfl
  obtain ⟨N, hNN⟩ : ∃ N, numS s v = N := ⟨_, rfl⟩
  rw [hNN] at hN ⊢
  clear hNN
  obtain ⟨B1, H1⟩ := hidB (inR s.version 1 3)
  obtain ⟨B2, H2⟩ := hidB (inR s.next 1 1048576)
  obtain ⟨B3, H3⟩ := hidB (inR s.keep 0 8)
  obtain ⟨q, hq⟩ : ∃ q, mostQuota v = q := ⟨_, rfl⟩
  rw [hq] at hN
  obtain ⟨B4, H4⟩ := hidB (inR s.quota 0 q)
  rw [H1.out, H2.out, H3.out, H4.out] at hN
  have HN := Lib.hid hN
  have HQ := Lib.hid hq
  have hb0 : ∀ o, Below w.heap.size w (w.alloc o) := fun o => (Below.refl _ _).alloc (Nat.le_refl _) o
  clear hN hq
  unfold nagg
  by_cases h3 : 3 ≤ v
  · obtain rfl : q = 64 := by rw [← HQ.out]; unfold mostQuota; rw [if_pos h3]
    clear HQ
    go_enter Try.func33, Try.ntmps33
    go_wp2_with fail
    refine (within_e H1.out _).mono ?_
    rintro _ _ ⟨rfl, rfl⟩
    cases B1 with
    | false =>
      obtain rfl : N = false := by rw [HN.out]; simp
      go_wp2
      go_ret
      exact ⟨rfl, hb0 _⟩
    | true =>
      go_wp2_with fail
      refine (within_e H2.out _).mono ?_
      rintro _ _ ⟨rfl, rfl⟩
      cases B2 with
      | false =>
        obtain rfl : N = false := by rw [HN.out]; simp
        go_wp2
        go_ret
        exact ⟨rfl, hb0 _⟩
      | true =>
        go_wp2_with fail
        refine (within_e H3.out _).mono ?_
        rintro _ _ ⟨rfl, rfl⟩
        cases B3 with
        | false =>
          obtain rfl : N = false := by rw [HN.out]; simp
          go_wp2
          go_ret
          exact ⟨rfl, hb0 _⟩
        | true =>
          go_wp2_with fail
          refine (within_e H4.out _).mono ?_
          rintro _ _ ⟨rfl, rfl⟩
          obtain rfl : N = B4 := by rw [HN.out]; simp
          go_wp2
          go_ret
          exact ⟨rfl, hb0 _⟩
  · obtain rfl : q = 0 := by rw [← HQ.out]; unfold mostQuota; rw [if_neg h3]
    clear HQ
    go_enter Try.func33, Try.ntmps33
    go_wp2_with fail
    refine (within_e H1.out _).mono ?_
    rintro _ _ ⟨rfl, rfl⟩
    cases B1 with
    | false =>
      obtain rfl : N = false := by rw [HN.out]; simp
      go_wp2
      go_ret
      exact ⟨rfl, hb0 _⟩
    | true =>
      go_wp2_with fail
      refine (within_e H2.out _).mono ?_
      rintro _ _ ⟨rfl, rfl⟩
      cases B2 with
      | false =>
        obtain rfl : N = false := by rw [HN.out]; simp
        go_wp2
        go_ret
        exact ⟨rfl, hb0 _⟩
      | true =>
        go_wp2_with fail
        refine (within_e H3.out _).mono ?_
        rintro _ _ ⟨rfl, rfl⟩
        cases B3 with
        | false =>
          obtain rfl : N = false := by rw [HN.out]; simp
          go_wp2
          go_ret
          exact ⟨rfl, hb0 _⟩
        | true =>
          go_wp2_with fail
          refine (within_e H4.out _).mono ?_
          rintro _ _ ⟨rfl, rfl⟩
          obtain rfl : N = B4 := by rw [HN.out]; simp
          go_wp2
          go_ret
          exact ⟨rfl, hb0 _⟩

set_option maxHeartbeats 1000000 in
set_option maxRecDepth 100000 in
theorem sess_cl (x : Ses) (w : World) : Calls Try.prog 53 #[.agg #[.int .i64 x.client, .int .i64 x.seq, .int .i64 x.code, .int .i64 x.n]] w fun e w' => e = .returned (.bool (sesAll x)) ∧ Below w.heap.size w w' := by
  have hN : sesAll x = (inR x.seq 0 1048576 && (inR x.code 0 99 && inR x.n 0 1048576)) := rfl
  obtain ⟨N, hNN⟩ : ∃ N, sesAll x = N := ⟨_, rfl⟩
  rw [hNN] at hN ⊢
  clear hNN
  obtain ⟨B1, H1⟩ := hidB (inR x.seq 0 1048576)
  obtain ⟨B2, H2⟩ := hidB (inR x.code 0 99)
  obtain ⟨B3, H3⟩ := hidB (inR x.n 0 1048576)
  rw [H1.out, H2.out, H3.out] at hN
  have HN := Lib.hid hN
  have hb0 : ∀ o, Below w.heap.size w (w.alloc o) := fun o => (Below.refl _ _).alloc (Nat.le_refl _) o
  clear hN
  go_enter Try.func53, Try.ntmps53
  go_wp2_with fail
  refine (within_e H1.out _).mono ?_
  rintro _ _ ⟨rfl, rfl⟩
  cases B1 with
  | false =>
    obtain rfl : N = false := by rw [HN.out]; simp
    go_wp2
    go_ret
    exact ⟨rfl, hb0 _⟩
  | true =>
    go_wp2_with fail
    refine (within_e H2.out _).mono ?_
    rintro _ _ ⟨rfl, rfl⟩
    cases B2 with
    | false =>
      obtain rfl : N = false := by rw [HN.out]; simp
      go_wp2
      go_ret
      exact ⟨rfl, hb0 _⟩
    | true =>
      go_wp2_with fail
      refine (within_e H3.out _).mono ?_
      rintro _ _ ⟨rfl, rfl⟩
      obtain rfl : N = B3 := by rw [HN.out]; simp
      go_wp2
      go_ret
      exact ⟨rfl, hb0 _⟩

set_option maxRecDepth 100000 in
theorem opens_cl (x : Opn) (w : World) : Calls Try.prog 56 #[.agg #[.int .i64 x.set, .int .i64 x.client]] w fun e w' => e = .returned (.bool (opnAll x)) ∧ Below w.heap.size w w' := by
  obtain ⟨N, HN⟩ := hidB (inR x.client 1 8)
  have hb0 : ∀ o, Below w.heap.size w (w.alloc o) := fun o => (Below.refl _ _).alloc (Nat.le_refl _) o
  unfold opnAll
  rw [HN.out]
  go_enter Try.func56, Try.ntmps56
  go_wp2_with fail
  refine (within_e HN.out _).mono ?_
  rintro _ _ ⟨rfl, rfl⟩
  go_wp2
  go_ret
  exact ⟨rfl, hb0 _⟩

set_option maxHeartbeats 1000000 in
set_option maxRecDepth 100000 in
theorem isRow_c (A : Option Addr) (n c : Nat) (l : List Int) (w : World) (h : Rd w w.heap.size 1 A n (ivs l)) (hnc : n ≤ c) (hmax : c ≤ 9223372036854775807) :
    Calls Try.prog 60 #[.slice A n c] w fun e w' => e = .returned (.bool (row l)) ∧ Below w.heap.size w w' := by
  have HC := Lib.hid ((chunks_c0 A n c l w h hnc hmax).mono fun e w' (hh : NewPair w (chunksB l).1 ((chunksB l).2 : Nat) e w') => show ∃ v, e = .returned (.tuple #[v, .int .i64 (if row l then 0 else 1)]) ∧ Below w.heap.size w w' from by obtain ⟨v, h1, _, h3⟩ := hh; refine ⟨v, ?_, h3⟩; rw [h1]; unfold chunksB; cases row l <;> rfl)
  obtain ⟨N, HN⟩ := hidB (row l)
  rw [HN.out] at HC ⊢
  clear h
  cases N with
  | true =>
    go_enter Try.func60, Try.ntmps60
    go_wp2_with fail
    refine HC.out.mono ?_
    rintro _ w1 ⟨v, rfl, hb1⟩
    go_wp2
    go_ret
    exact ⟨rfl, hb1⟩
  | false =>
    go_enter Try.func60, Try.ntmps60
    go_wp2_with fail
    refine HC.out.mono ?_
    rintro _ w1 ⟨v, rfl, hb1⟩
    go_wp2
    go_ret
    exact ⟨rfl, hb1⟩

set_option maxHeartbeats 1000000 in
set_option maxRecDepth 100000 in
theorem maySess_c (A : Option Addr) (n c : Nat) (l : List Ses) (w : World) (h : RdR secells 4 w w.heap.size A n l) (hn : n ≤ 9223372036854775807) :
    Calls Try.prog 34 #[.slice A n c] w fun e w' => e = .returned (.bool (sesS l)) ∧ Below w.heap.size w w' := by
  have H1 := Lib.hid (rise_se A n c l 8 w hn h)
  have H2 := Lib.hid (fun w1 (hb : Below w.heap.size w w1) => all_se A n c l 53 #[] sesAll w1 hn ((h.below hb).more hb.size) (fun _ _ => rfl) (fun x wr _ _ => sess_cl x wr))
  have hN : sesS l = (riseK Ses.client 8 0 l && l.all sesAll) := rfl
  obtain ⟨N, hNN⟩ : ∃ N, sesS l = N := ⟨_, rfl⟩
  rw [hNN] at hN ⊢
  clear hNN h
  obtain ⟨B1, hB1⟩ : ∃ B, riseK Ses.client 8 0 l = B := ⟨_, rfl⟩
  obtain ⟨B2, hB2⟩ : ∃ B, l.all sesAll = B := ⟨_, rfl⟩
  rw [hB1] at H1 hN
  rw [hB2] at H2 hN
  have HN := Lib.hid hN
  clear hN hB1 hB2
  go_enter Try.func34, Try.ntmps34
  go_wp2_with fail
  refine H1.out.mono ?_
  rintro _ w1 ⟨rfl, hb1⟩
  cases B1 with
  | false =>
    obtain rfl : N = false := by rw [HN.out]; simp
    go_wp2
    go_ret
    exact ⟨rfl, hb1⟩
  | true =>
    have HX := Lib.hid (H2.out w1 hb1)
    clear H2
    go_wp2_with fail
    refine HX.out.mono ?_
    rintro _ w2 ⟨rfl, hb2⟩
    have hb3 := hb1.trans (hb2.mono hb1.size)
    obtain rfl : N = B2 := by rw [HN.out]; simp
    go_wp2
    go_ret
    exact ⟨rfl, hb3⟩

set_option maxHeartbeats 1000000 in
set_option maxRecDepth 100000 in
theorem mayOpens_c (A : Option Addr) (n c : Nat) (l : List Opn) (w : World) (h : RdR opcells 2 w w.heap.size A n l) (hn : n ≤ 9223372036854775807) :
    Calls Try.prog 35 #[.slice A n c] w fun e w' => e = .returned (.bool (opnS l)) ∧ Below w.heap.size w w' := by
  have H1 := Lib.hid (rise_op A n c l 8 w hn h)
  have H2 := Lib.hid (fun w1 (hb : Below w.heap.size w w1) => all_op A n c l 56 #[] opnAll w1 hn ((h.below hb).more hb.size) (fun _ _ => rfl) (fun x wr _ _ => opens_cl x wr))
  have hN : opnS l = (riseK Opn.set 8 0 l && l.all opnAll) := rfl
  obtain ⟨N, hNN⟩ : ∃ N, opnS l = N := ⟨_, rfl⟩
  rw [hNN] at hN ⊢
  clear hNN h
  obtain ⟨B1, hB1⟩ : ∃ B, riseK Opn.set 8 0 l = B := ⟨_, rfl⟩
  obtain ⟨B2, hB2⟩ : ∃ B, l.all opnAll = B := ⟨_, rfl⟩
  rw [hB1] at H1 hN
  rw [hB2] at H2 hN
  have HN := Lib.hid hN
  clear hN hB1 hB2
  go_enter Try.func35, Try.ntmps35
  go_wp2_with fail
  refine H1.out.mono ?_
  rintro _ w1 ⟨rfl, hb1⟩
  cases B1 with
  | false =>
    obtain rfl : N = false := by rw [HN.out]; simp
    go_wp2
    go_ret
    exact ⟨rfl, hb1⟩
  | true =>
    have HX := Lib.hid (H2.out w1 hb1)
    clear H2
    go_wp2_with fail
    refine HX.out.mono ?_
    rintro _ w2 ⟨rfl, hb2⟩
    have hb3 := hb1.trans (hb2.mono hb1.size)
    obtain rfl : N = B2 := by rw [HN.out]; simp
    go_wp2
    go_ret
    exact ⟨rfl, hb3⟩

set_option maxHeartbeats 1000000 in
set_option maxRecDepth 100000 in
theorem snaps_cl (g h : Nat) (v : Int) (x : Snp) (s : Option Addr × Nat) (u : World) (hg : Blk u g 3 #[.int .i64 v]) (hh : Blk u h 3 #[.int .i64 (mostText v)]) (hr : RdSn u u.heap.size x s) :
    Calls Try.prog 59 #[.agg #[.int .i64 x.id, .int .i64 x.set, .slice s.1 x.chunks.length s.2, .bool x.held, .string (strOf x.tag)], .pointer (some ⟨g, 0, none⟩), .pointer (some ⟨h, 0, none⟩)] u fun e u' => e = .returned (.bool (snpAll v x)) ∧ Below u.heap.size u u' := by
  obtain ⟨u0, hu0⟩ : ∃ u0 : World, u0 = u.alloc (.cells #[.int .i64 x.id, .int .i64 x.set, .slice s.1 x.chunks.length s.2, .bool x.held, .string (strOf x.tag)] 38) := ⟨_, rfl⟩
  have hb : Below u.heap.size u u0 := by rw [hu0]; exact (Below.refl _ _).alloc (Nat.le_refl _) _
  have hsz : u0.heap.size = u.heap.size + 1 := by rw [hu0]; simp
  have HG := Lib.hid (hg.below hb hg.lt)
  have HH := Lib.hid (hh.below hb hh.lt)
  have hk0 : Blk u0 u.heap.size 38 #[.int .i64 x.id, .int .i64 x.set, .slice s.1 x.chunks.length s.2, .bool x.held, .string (strOf x.tag)] := by rw [hu0]; exact Blk.new _ _ _
  have HK := Lib.hid hk0
  have y1 : u0.cell? ⟨u.heap.size, 1, none⟩ = some (.int .i64 x.set) := (hk0.cell 1).trans rfl
  have y2 : u0.cell? ⟨u.heap.size, 2, none⟩ = some (.slice s.1 x.chunks.length s.2) := (hk0.cell 2).trans rfl
  have hr0 := (hr.below hb).more hb.size
  have HR := Lib.hid (isRow_c s.1 x.chunks.length s.2 x.chunks u0 hr0.1 hr0.2.1 hr0.2.2)
  have hN : snpAll v x = (inR x.set 1 8 && (row x.chunks && ((decide (2 ≤ v) || !x.held) && decide ((x.tag.length : Int) ≤ mostText v)))) := rfl
  have hlen : (strOf x.tag).size = x.tag.length := strOf_size x.tag
  obtain ⟨N, hNN⟩ : ∃ N, snpAll v x = N := ⟨_, rfl⟩
  obtain ⟨q, hq⟩ : ∃ q, mostText v = q := ⟨_, rfl⟩
  rw [hq] at hN HH
  rw [hNN] at hN ⊢
  obtain ⟨B1, H1⟩ := hidB (inR x.set 1 8)
  obtain ⟨B2, H2⟩ := hidB (row x.chunks)
  rw [H1.out, H2.out] at hN
  rw [H2.out] at HR
  obtain ⟨hd, hhd⟩ : ∃ b, x.held = b := ⟨_, rfl⟩
  rw [hhd] at hN HK
  have HN := Lib.hid hN
  have HW := Lib.hid hu0
  have HL := Lib.hid hlen
  have HSZ := Lib.hid hsz
  clear hk0 hu0 hg hh hr hr0 hN hNN hq hlen hsz
  have HHD := Lib.hid hhd
  clear hhd
  go_enter Try.func59, Try.ntmps59
  go_upto_region 1 with fail
  rw [show u.alloc (.cells #[.int .i64 x.id, .int .i64 x.set, .slice s.1 x.chunks.length s.2, .bool x.held, .string (strOf x.tag)] 38) = u0 from HW.out.symm]
  go_wp2_with fail
  refine (within_e H1.out _).mono ?_
  rintro _ _ ⟨rfl, rfl⟩
  cases B1 with
  | false =>
    obtain rfl : N = false := by rw [HN.out]; simp
    go_wp2
    go_ret
    exact ⟨rfl, hb⟩
  | true =>
    go_wp2_with fail
    refine HR.out.mono ?_
    rintro _ w1 ⟨rfl, hb1⟩
    have hb2 := hb.trans (hb1.mono hb.size)
    cases B2 with
    | false =>
      obtain rfl : N = false := by rw [HN.out]; simp
      go_wp2
      go_ret
      exact ⟨rfl, hb2⟩
    | true =>
      have z1 : w1.cell? ⟨g, 0, none⟩ = some (.int .i64 v) := ((HG.out.below hb1 HG.out.lt).cell 0).trans rfl
      have z2 : w1.cell? ⟨h, 0, none⟩ = some (.int .i64 q) := ((HH.out.below hb1 HH.out.lt).cell 0).trans rfl
      have z3 : w1.cell? ⟨u.heap.size, 3, none⟩ = some (.bool hd) := ((HK.out.below hb1 HK.out.lt).cell 3).trans rfl
      have z4 : w1.cell? ⟨u.heap.size, 4, none⟩ = some (.string (strOf x.tag)) := ((HK.out.below hb1 HK.out.lt).cell 4).trans rfl
      have hlen := HL.out
      clear y1 y2 HHD
      by_cases h2 : 2 ≤ v
      · obtain rfl : N = decide ((x.tag.length : Int) ≤ q) := by rw [HN.out]; simp [h2]
        go_wp2
        go_ret
        exact ⟨by rw [← hlen]; rfl, hb2⟩
      · cases hd with
        | true =>
          obtain rfl : N = false := by rw [HN.out]; simp [h2]
          go_wp2
          go_ret
          exact ⟨rfl, hb2⟩
        | false =>
          obtain rfl : N = decide ((x.tag.length : Int) ≤ q) := by rw [HN.out]; simp [h2]
          go_wp2
          go_ret
          exact ⟨by rw [← hlen]; rfl, hb2⟩
end Go.Proofs.Ytdkjdiamekfbdaa
