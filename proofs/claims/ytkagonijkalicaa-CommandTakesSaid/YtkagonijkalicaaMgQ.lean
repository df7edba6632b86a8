/-
  Several texts in one: CmFew, CmShown.
-/
import Derived.Test.YtkagonijkalicaaMgP
set_option linter.unusedVariables false
set_option linter.unusedSimpArgs false

/-
  The walks of the laws' few, some, short, shown.
-/
namespace Go.Proofs.Ytkagonijkalicaa
open Go.RowKit
open Cm (Cmd need mayC putC takeC project chunksB unchunk)
open Tl (Fel)

/-- What 'few' makes of a command. -/
def fewC (c : Cmd) : Cmd := { c with chunks := c.chunks.take 12, text := c.text.take 40 }
theorem strOf_take (l : List Nat) (k : Nat) : (strOf l).extract 0 k = strOf (l.take k) := by
  unfold strOf
  apply ByteArray.ext
  simp [List.map_take]
theorem few_ok {c : Cmd} (h : I64 c.kind ∧ I64 c.client ∧ I64 c.seq ∧ I64 c.set ∧ I64 c.id ∧ I64 c.n) (h2 : ∀ x ∈ c.chunks, I64 x) (h3 : ∀ b ∈ c.text, b < 256) : Cok (fewC c) :=
  ⟨h, fun x hx => h2 x (List.mem_of_mem_take hx), fun b hb => h3 b (List.mem_of_mem_take hb), by show (c.chunks.take 12).length ≤ 20000; rw [List.length_take]; omega, by show (c.text.take 40).length ≤ 20000; rw [List.length_take]; omega⟩

theorem few_cells (c : Cmd) (s : Option Addr × Nat) {n : Nat} {tx : List Nat} (h1 : (c.chunks.take 12).length = n) (h2 : c.text.take 40 = tx) :
    cblk (fewC c) s = #[.int .i64 c.kind, .int .i64 c.client, .int .i64 c.seq, .int .i64 c.set, .int .i64 c.id, .int .i64 c.n, .slice s.1 n s.2, .string (strOf tx)] := by
  subst h1 h2; rfl
theorem few_rd {w w' : World} {c : Cmd} {s : Option Addr × Nat} (h : RdC w w.heap.size c s) (hb : Below w.heap.size w w') : RdC w' w'.heap.size (fewC c) s := by
  obtain ⟨h1, h2, h3⟩ := h
  have hl : (c.chunks.take 12).length ≤ c.chunks.length := by rw [List.length_take]; omega
  refine ⟨?_, by show (c.chunks.take 12).length ≤ _; omega, h3⟩
  have h4 := ((h1.below hb).more hb.size).take hl
  rw [Nat.mul_one] at h4
  have e : (ivs c.chunks).take (c.chunks.take 12).length = ivs (c.chunks.take 12) := by
    unfold ivs
    rw [← List.map_take]
    congr 1
    rw [List.length_take, List.take_eq_take_iff]; omega
  rw [e] at h4
  exact h4

set_option maxHeartbeats 1000000 in
set_option maxRecDepth 100000 in
theorem fewc_same (c : Cmd) (s : Option Addr × Nat) (w : World) (h : RdC w w.heap.size c s) (ht : c.text.length ≤ 9223372036854775807) :
    Calls Try.prog 12 #[cagg c s] w fun e w' => e = .returned (cagg (fewC c) s) ∧ Below w.heap.size w w' := by
  have h2 := h.2.1
  have h3 := h.2.2
  have hsz := strOf_size c.text
  have hst := strOf_take c.text 40
  have hb2 : ∀ a b : Obj, Below w.heap.size w ((w.alloc a).alloc b) := fun a b => ((Below.refl _ _).alloc (Nat.le_refl _) _).alloc (by simp) _
  rw [show cagg c s = .agg #[.int .i64 c.kind, .int .i64 c.client, .int .i64 c.seq, .int .i64 c.set, .int .i64 c.id, .int .i64 c.n, .slice s.1 c.chunks.length s.2, .string (strOf c.text)] from rfl]
  by_cases hl : 12 < c.chunks.length
  · by_cases hx : 40 < c.text.length
    · have hcb : cblk (fewC c) s = #[.int .i64 c.kind, .int .i64 c.client, .int .i64 c.seq, .int .i64 c.set, .int .i64 c.id, .int .i64 c.n, .slice s.1 12 s.2, .string (strOf (c.text.take 40))] := few_cells c s (by rw [List.length_take]; omega) (by rfl)
      have HCB := Lib.hid hcb
      clear hcb
      go_enter Try.func12, Try.ntmps12
      go_wp2
      (try simp only [Exit.inBlock, Exit.then])
      exact bodyPost_ret (results_cell_row rfl _ _ (w.heap.size + 1) 24 _ (0, 0) _ rfl (heap_alloc2_new w _ _) Try.underlying24 rfl (by kernel_rfl)) rfl ⟨by unfold cagg; rw [HCB.out], hb2 _ _⟩
    · have hcb : cblk (fewC c) s = #[.int .i64 c.kind, .int .i64 c.client, .int .i64 c.seq, .int .i64 c.set, .int .i64 c.id, .int .i64 c.n, .slice s.1 12 s.2, .string (strOf c.text)] := few_cells c s (by rw [List.length_take]; omega) (by rw [List.take_of_length_le (by omega)])
      have HCB := Lib.hid hcb
      clear hcb hst
      go_enter Try.func12, Try.ntmps12
      go_wp2
      (try simp only [Exit.inBlock, Exit.then])
      exact bodyPost_ret (results_cell_row rfl _ _ (w.heap.size + 1) 24 _ (0, 0) _ rfl (heap_alloc2_new w _ _) Try.underlying24 rfl (by kernel_rfl)) rfl ⟨by unfold cagg; rw [HCB.out], hb2 _ _⟩
  · by_cases hx : 40 < c.text.length
    · have hcb : cblk (fewC c) s = #[.int .i64 c.kind, .int .i64 c.client, .int .i64 c.seq, .int .i64 c.set, .int .i64 c.id, .int .i64 c.n, .slice s.1 c.chunks.length s.2, .string (strOf (c.text.take 40))] := few_cells c s (by rw [List.length_take]; omega) (by rfl)
      have HCB := Lib.hid hcb
      clear hcb
      go_enter Try.func12, Try.ntmps12
      go_wp2
      (try simp only [Exit.inBlock, Exit.then])
      exact bodyPost_ret (results_cell_row rfl _ _ (w.heap.size + 1) 24 _ (0, 0) _ rfl (heap_alloc2_new w _ _) Try.underlying24 rfl (by kernel_rfl)) rfl ⟨by unfold cagg; rw [HCB.out], hb2 _ _⟩
    · have hcb : cblk (fewC c) s = #[.int .i64 c.kind, .int .i64 c.client, .int .i64 c.seq, .int .i64 c.set, .int .i64 c.id, .int .i64 c.n, .slice s.1 c.chunks.length s.2, .string (strOf c.text)] := few_cells c s (by rw [List.length_take]; omega) (by rw [List.take_of_length_le (by omega)])
      have HCB := Lib.hid hcb
      clear hcb hst
      go_enter Try.func12, Try.ntmps12
      go_wp2
      (try simp only [Exit.inBlock, Exit.then])
      exact bodyPost_ret (results_cell_row rfl _ _ (w.heap.size + 1) 24 _ (0, 0) _ rfl (heap_alloc2_new w _ _) Try.underlying24 rfl (by kernel_rfl)) rfl ⟨by unfold cagg; rw [HCB.out], hb2 _ _⟩

/-- What 'some' makes of fields. -/
def cut100 (f : Fel) : Fel := { f with b := f.b.take 100 }
def someL (l : List Fel) : List Fel := (l.take 20).map cut100
theorem someL_len (l : List Fel) : (someL l).length ≤ 20 := by unfold someL; rw [List.length_map, List.length_take]; omega
theorem someL_ok {l : List Fel} (h : ∀ f ∈ l, f.wf ∧ -9223372036854775808 ≤ f.num ∧ f.num ≤ 9223372036854775807 ∧ -9223372036854775808 ≤ f.wire ∧ f.wire ≤ 9223372036854775807) : ∀ f ∈ someL l, Fok f := by
  intro f hf
  unfold someL at hf
  obtain ⟨g, hg, rfl⟩ := List.mem_map.1 hf
  obtain ⟨h1, h2, h3, h4, h5⟩ := h g (List.mem_of_mem_take hg)
  exact ⟨⟨h1.1, fun b hb => h1.2 b (List.mem_of_mem_take hb)⟩, h2, h3, h4, h5, by show (g.b.take 100).length ≤ 17000; rw [List.length_take]; omega⟩
theorem someL_get {l : List Fel} {j : Nat} {f : Fel} (h : l[j]? = some f) (hj : j < 20) : (someL l)[j]? = some (cut100 f) := by
  unfold someL
  rw [List.getElem?_map, List.getElem?_take, if_pos hj, h]; rfl
theorem some_step {w wr w2 : World} {A : Option Addr} {n m j : Nat} {l : List Fel} {S : List (Option Addr × Nat)} {f : Fel} {s : Option Addr × Nat} {o v2 : Value} {cs : List Value} {e : TypeId} {b1 b2 : Obj} (hm : (someL l).length = m) (h : RdF w w.heap.size A n l S)
    (hlt : j < m) (hj : j < 20) (hf : l[j]? = some f) (hs : S[j]? = some s) (hcs : fcells (cut100 f) s = cs) (hb : Below w.heap.size w wr) (hown : wr.ownsRow w.heap.size e 4 o j (rcells ((someL l).take j) (S.take j)))
    (hown2 : w2.ownsRow w.heap.size e 4 v2 (j + 1) (rcells ((someL l).take j) (S.take j) ++ cs)) (hg : ((wr.alloc b1).alloc b2).grownBy w2 o.ownBlock) :
    w2.ownsRow w.heap.size e 4 v2 (j + 1) (rcells ((someL l).take (j + 1)) (S.take (j + 1))) ∧ Below w.heap.size w w2 := by
  have hS := (List.getElem?_eq_some_iff.1 hs).1
  refine ⟨?_, ((hb.alloc hb.size _).alloc (by simp; have := hb.size; omega) _).grown hg (by simp; have := hb.size; omega) fun k hk => (hown.lt k hk).1⟩
  rw [List.take_add_one, List.take_add_one, someL_get hf hj, hs, rcells_app _ _ _ _ (by rw [List.length_take, List.length_take, hm]; omega)]
  simp only [Option.toList_some]
  rw [rcells_one, hcs]
  exact hown2
theorem someL_rd {w w' : World} {A : Option Addr} {n : Nat} {l : List Fel} {S : List (Option Addr × Nat)} (h : RdF w w.heap.size A n l S) (hb : Below w.heap.size w w') (k : Nat) (f : Fel) (s : Option Addr × Nat) (hf : (someL l)[k]? = some f) (hs : (S.take 20)[k]? = some s) :
    Rd w' w.heap.size 1 s.1 f.b.length (bvs f.b) ∧ f.b.length ≤ s.2 ∧ s.2 ≤ 9223372036854775807 := by
  have hk : k < 20 := by
    have := (List.getElem?_eq_some_iff.1 hs).1
    rw [List.length_take] at this
    omega
  rw [List.getElem?_take, if_pos hk] at hs
  obtain ⟨g, hg⟩ : ∃ g, l[k]? = some g := ⟨l[k]'(by have := (List.getElem?_eq_some_iff.1 hs).1; have := h.1; have := h.2.1; omega), by simp⟩
  rw [someL_get hg hk] at hf
  obtain rfl := Option.some.inj hf
  obtain ⟨h1, h2, h3⟩ := h.2.2.2 k g s hg hs
  unfold cut100
  have hlen : (g.b.take 100).length ≤ g.b.length := by rw [List.length_take]; omega
  refine ⟨?_, by show (g.b.take 100).length ≤ _; omega, h3⟩
  have h4 := (h1.below hb).bytes_to hlen
  have e : g.b.take (g.b.take 100).length = g.b.take 100 := by rw [List.length_take, List.take_eq_take_iff]; omega
  rw [e] at h4
  exact h4

set_option maxHeartbeats 1000000 in
set_option maxRecDepth 100000 in
theorem some_any (A : Option Addr) (n c : Nat) (l : List Fel) (S : List (Option Addr × Nat)) (w : World) (h : RdF w w.heap.size A n l S) (hnc : n ≤ c) (hmax : c ≤ 9223372036854775807) :
    Calls Try.prog 27 #[.slice A n c] w fun e w' => ∃ v, e = .returned v ∧ NewRow w' (someL l) v ∧ Below w.heap.size w w' := by
  obtain ⟨i0, hi, hz0, hz1, hz2⟩ := info_parts field_info
  obtain ⟨m, hm⟩ : ∃ m, m = min 20 n := ⟨_, rfl⟩
  have hln := h.1
  have hlen : (someL l).length = m := by unfold someL; rw [List.length_map, List.length_take, h.1, hm]
  have hm' : m ≤ n ∧ m ≤ 20 ∧ (m < 20 → m = n) := by omega
  have HR := Lib.hid h
  have HL := Lib.hid hlen
  have HN := Lib.hid hln
  clear h hm hlen hln
  go_enter Try.func27, Try.ntmps27
  go_wp2
  go_loopw [3, 4] (fun o i wr => ∃ j : Nat, j ≤ m ∧ i = .int .i64 (j : Int) ∧ wr.ownsRow w.heap.size 55 4 o j (rcells ((someL l).take j) (S.take j)) ∧ Below w.heap.size w wr) (fun _ i _ => m - (intOf i).toNat)
  case atStart => exact ⟨0, by omega, rfl, by simpa [rcells] using World.ownsRow_made w #[] 0 (Nat.le_refl _) (by unfold maxLen; omega) rfl, (Below.refl _ _).alloc (Nat.le_refl _) _⟩
  case round =>
    obtain ⟨j, hj, rfl, hown, hb⟩ := hrel
    have HO := Lib.hid hown
    clear hown
    by_cases hlt : j < m
    · obtain ⟨ad, f, s, rfl, hab, hf, hs, g0, g1, g2, g3, hrd, hs1, hs2⟩ := (HR.out.below hb).spell (show j < n by omega)
      have hj60 : j < 20 := by omega
      have hsz := hb.size
      obtain ⟨L, hL⟩ : ∃ L, L = (cut100 f).b.length := ⟨_, rfl⟩
      have HC := Lib.hid (show fcells (cut100 f) s = [.int .i64 f.num, .int .i64 f.wire, .int .u64 (f.n : Int), .slice s.1 L s.2] by rw [hL]; rfl)
      have hL2 : L = min 100 f.b.length := by rw [hL]; simp [cut100, List.length_take]
      clear hL
      by_cases hc1 : 100 < f.b.length
      · obtain rfl : L = 100 := by omega
        clear hL2
        go_wp2_with (at_builtin; refine wpList_append_own _ rfl (.tmp 29) (.tmp 31) 40 rfl w.heap.size 55 i0 (.agg #[.int .i64 0, .int .i64 0, .int .u64 0, .slice none 0 0]) 4 48 Try.underlying40 hi hz0 hz1 hz2 rfl (by decide) _ j _ rfl ((HO.out.alloc _).alloc _) ⟨wr.heap.size + 1, 0, none⟩ 1 1 [.int .i64 f.num, .int .i64 f.wire, .int .u64 (f.n : Int), .slice s.1 (100) s.2] rfl rfl (by have h0 := cells4_new (wr.alloc (.cells #[.int .i64 f.num, .int .i64 f.wire, .int .u64 (f.n : Int), .slice s.1 (100) s.2] 55)) (.int .i64 f.num) (.int .i64 f.wire) (.int .u64 (f.n : Int)) (.slice s.1 (100) s.2) 55; simpa using h0) (few_one _ _ _ _ _ _) (by unfold maxLen; omega) (by omega) (by simp; omega) ?_)
        intro v2 w2 hown2 hg2 _
        have R := some_step (f := f) (s := s) HL.out HR.out hlt hj60 hf hs HC.out hb HO.out hown2 hg2
        clear hown2 hg2
        go_wp2
        go_roundw
        case rel => exact ⟨j + 1, by omega, by go_num, R.1, R.2⟩
        case measure => simp [intOf]; omega
      · obtain rfl : L = f.b.length := by omega
        clear hL2
        go_wp2_with (at_builtin; refine wpList_append_own _ rfl (.tmp 29) (.tmp 31) 40 rfl w.heap.size 55 i0 (.agg #[.int .i64 0, .int .i64 0, .int .u64 0, .slice none 0 0]) 4 48 Try.underlying40 hi hz0 hz1 hz2 rfl (by decide) _ j _ rfl ((HO.out.alloc _).alloc _) ⟨wr.heap.size + 1, 0, none⟩ 1 1 [.int .i64 f.num, .int .i64 f.wire, .int .u64 (f.n : Int), .slice s.1 (f.b.length) s.2] rfl rfl (by have h0 := cells4_new (wr.alloc (.cells #[.int .i64 f.num, .int .i64 f.wire, .int .u64 (f.n : Int), .slice s.1 (f.b.length) s.2] 55)) (.int .i64 f.num) (.int .i64 f.wire) (.int .u64 (f.n : Int)) (.slice s.1 (f.b.length) s.2) 55; simpa using h0) (few_one _ _ _ _ _ _) (by unfold maxLen; omega) (by omega) (by simp; omega) ?_)
        intro v2 w2 hown2 hg2 _
        have R := some_step (f := f) (s := s) HL.out HR.out hlt hj60 hf hs HC.out hb HO.out hown2 hg2
        clear hown2 hg2
        go_wp2
        go_roundw
        case rel => exact ⟨j + 1, by omega, by go_num, R.1, R.2⟩
        case measure => simp [intOf]; omega
    · obtain rfl : j = m := by omega
      have hmn : ¬ (j < n ∧ j < 20) := by omega
      have hS : S.length = n := HR.out.2.1
      have hf1 : (someL l).take j = someL l := List.take_of_length_le (by have := HL.out; omega)
      have hf2 : S.take j = S.take 20 := by
        by_cases h60 : j = 20
        · rw [h60]
        · rw [List.take_of_length_le (by omega), List.take_of_length_le (by omega)]
      have hown := HO.out
      rw [hf1, hf2] at hown
      obtain ⟨A', c', hv, x1, x2, x3⟩ := RdF.of_own hown HL.out (by rw [List.length_take, hS]; omega) hb.size (someL_rd HR.out hb)
      have hnr : NewRow wr (someL l) _ := ⟨A', j, c', S.take 20, hv, x1, x2, x3⟩
      have HNR := Lib.hid hnr
      clear hown hf1 hf2 hS hv x3 hnr
      by_cases h60 : j < n
      · have h20 : ¬ j < 20 := by omega
        go_wp2
        go_ret
        exact ⟨_, rfl, HNR.out, hb⟩
      · go_wp2
        go_ret
        exact ⟨_, rfl, HNR.out, hb⟩
end Go.Proofs.Ytkagonijkalicaa

/-
  The walks of the laws' head (the document's example), and of short.
-/
namespace Go.Proofs.Ytkagonijkalicaa
open Go.RowKit
open Cm (Cmd need mayC putC takeC project chunksB unchunk)
open Tl (Fel)

theorem short5_any (A : Option Addr) (n c : Nat) (w : World) (hnc : n ≤ c) (hmax : c ≤ 9223372036854775807) :
    Calls Try.prog 16 #[.slice A n c] w fun e w' => e = .returned (.slice A (min n 3000) c) ∧ w = w' := by
  by_cases h : 3000 < n
  · have e : min n 3000 = 3000 := by omega
    have HE := Lib.hid e
    have h3 : (3000 : Int) ≤ (c : Int) := by omega
    clear e
    go_enter Try.func16, Try.ntmps16
    go_wp2
    go_ret
    exact ⟨by rw [HE.out]; rfl, rfl⟩
  · have e : min n 3000 = n := by omega
    have HE := Lib.hid e
    clear e
    go_enter Try.func16, Try.ntmps16
    go_wp2
    go_ret
    exact ⟨by rw [HE.out]; rfl, rfl⟩

def bump2 : Cmd := ⟨8, 0, 0, 0, 0, 2, [], []⟩
theorem bump2_ok : Cok bump2 := ⟨⟨by simp [I64, bump2], by simp [I64, bump2], by simp [I64, bump2], by simp [I64, bump2], by simp [I64, bump2], by simp [I64, bump2]⟩, by simp [bump2], by simp [bump2], by simp [bump2], by simp [bump2]⟩
theorem bump2_put : putC bump2 [] 1 = ([8, 8, 48, 2], 0) := by decide +kernel

set_option maxHeartbeats 1000000 in
set_option maxRecDepth 100000 in
theorem cshown_any (w : World) : Calls Try.prog 11 #[] w fun e w' => e = .returned (.bool true) ∧ Below w.heap.size w w' := by
  have hcall := put_c bump2 (none, 0) 1 none 0 0 [] [] w ⟨Rd.nil _ _ _ _, by simp [bump2], by simp⟩ bump2_ok (RdF.nil _ _ _) (Nat.le_refl _) (by omega) (by omega) (by simp) (by simp [I64])
  rw [bump2_put] at hcall
  have HC := Lib.hid hcall
  have HN := Lib.hid (show need 11 = 3 by decide)
  clear hcall
  go_enter Try.func11, Try.ntmps11
  go_wp2_with fail
  refine HC.out.mono ?_
  rintro e w3 ⟨v3, rfl, hown3, hb3⟩
  rw [show ([8, 8, 48, 2] : List Nat).length = 4 from rfl] at hown3
  obtain ⟨A3, c3, rfl, _, _⟩ := slice_of_own hown3
  have hr3 := Rd.of_own hown3
  have s1 := run_str (P := Try.prog) w3 25 9 5 Try.underlying25 Try.underlying5 Try.underlying9 hr3 c3
  have r2 : Rd (w3.alloc (.cells #[.int .u8 8, .int .u8 8, .int .u8 48, .int .u8 2] 5)) (w3.heap.size + 1) 1 (some ⟨w3.heap.size, 0, none⟩) 4 (bvs [8, 8, 48, 2]) := by
    have := rd_new w3 [.int .u8 8, .int .u8 8, .int .u8 48, .int .u8 2] 5
    simpa [bvs, bv] using this
  have s2 := run_str (P := Try.prog) _ 25 9 5 Try.underlying25 Try.underlying5 Try.underlying9 r2 4
  have hbw := hb3.alloc hb3.size (.cells #[.int .u8 8, .int .u8 8, .int .u8 48, .int .u8 2] 5)
  clear hown3 hr3 r2
  go_wp2_with fail
  refine (need_c 11 _ (by simp [I64])).mono ?_
  rintro e w4 ⟨rfl, hb4⟩
  rw [HN.out]
  go_wp2
  go_ret
  exact ⟨rfl, hbw.trans (hb4.mono hbw.size)⟩
end Go.Proofs.Ytkagonijkalicaa
