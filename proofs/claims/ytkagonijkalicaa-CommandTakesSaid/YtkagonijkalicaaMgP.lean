/-
  Several texts in one: CmReadP, CmProj, CmRead, CmTakeC, CmProg.
-/
import Derived.Test.YtkagonijkalicaaCmPutC
import Derived.Test.YtkagonijkalicaaCmMayC
import Derived.Test.YtkagonijkalicaaCmWords
import Derived.Test.YtkagonijkalicaaCmTakeP
import Derived.Test.YtkagonijkalicaaMgC
import Derived.Test.YtkagonijkalicaaMgE
import Derived.Test.YtkagonijkalicaaCmTake
import Derived.Test.YtkagonijkalicaaMgI
set_option linter.unusedVariables false
set_option linter.unusedSimpArgs false

/-
  Plain facts on how the landed command.read makes a command of its fields: a field's number is the last one's; what Put refuses makes no difference.
-/
namespace Go.Proofs.Ytkagonijkalicaa
open Go.RowKit
open Cm (Cmd inR inR_iff need needs row row_mem putC cutN stepC cmdOf known restOf takeC unchunk noCmd foreignC mayC mayNum forNum)
open Tl (Fel fit takeRow)
open Fo (top check)

def zFel : Fel := ⟨0, 0, 0, []⟩
/-- The last field of a number. -/
def lastO (l : List Fel) (i : Int) : Option Fel := l.foldl (fun a f => if f.num = i then some f else a) none
def lastFel (l : List Fel) (i : Int) : Fel := (lastO l i).getD zFel
def gOf (A : Int → Option Fel) : Cmd := ⟨cutN ((A 1).getD zFel).n, cutN ((A 2).getD zFel).n, cutN ((A 3).getD zFel).n, cutN ((A 4).getD zFel).n, cutN ((A 5).getD zFel).n, cutN ((A 6).getD zFel).n, (unchunk ((A 7).getD zFel).b).1, ((A 8).getD zFel).b⟩
def pOf (A : Int → Fel) : Cmd := ⟨asInt (A 1).n, asInt (A 2).n, asInt (A 3).n, asInt (A 4).n, asInt (A 5).n, asInt (A 6).n, (unchunk (A 7).b).1, (A 8).b⟩
theorem step_g (A : Int → Option Fel) (f : Fel) : stepC (gOf A) f = gOf (fun i => if f.num = i then some f else A i) := by
  unfold stepC gOf
  by_cases h1 : f.num = 1
  · simp [h1]
  by_cases h2 : f.num = 2
  · simp [h2]
  by_cases h3 : f.num = 3
  · simp [h3]
  by_cases h4 : f.num = 4
  · simp [h4]
  by_cases h5 : f.num = 5
  · simp [h5]
  by_cases h6 : f.num = 6
  · simp [h6]
  by_cases h7 : f.num = 7
  · simp [h7]
  by_cases h8 : f.num = 8
  · simp [h8]
  simp [h1, h2, h3, h4, h5, h6, h7, h8]
theorem fold_g : ∀ (l : List Fel) (A : Int → Option Fel), l.foldl stepC (gOf A) = gOf (fun i => l.foldl (fun a f => if f.num = i then some f else a) (A i))
  | [], _ => rfl
  | f :: l, A => by
    rw [List.foldl_cons, step_g, fold_g l]
    rfl
theorem cmdOf_last (l : List Fel) : cmdOf l = gOf (lastO l) := fold_g l (fun _ => none)
def cmdP (l : List Fel) : Cmd := pOf (lastFel l)
theorem last_mem {l : List Fel} {i : Int} {f : Fel} : ∀ {l : List Fel} {a : Option Fel}, l.foldl (fun a f => if f.num = i then some f else a) a = some f → a = some f ∨ f ∈ l
  | [], _, h => .inl h
  | g :: l, a, h => by
    rw [List.foldl_cons] at h
    rcases last_mem (l := l) h with h | h
    · split at h
      · injection h with h; subst h; exact .inr (by simp)
      · exact .inl h
    · exact .inr (by simp [h])
theorem lastFel_ok {l : List Fel} (h : ∀ f ∈ l, Fok f) (i : Int) : Fok (lastFel l i) := by
  unfold lastFel
  cases hl : lastO l i with
  | none => exact ⟨⟨by simp [zFel], by simp [zFel]⟩, by simp [zFel], by simp [zFel], by simp [zFel], by simp [zFel], by simp [zFel]⟩
  | some f =>
    rcases last_mem (l := l) hl with h2 | h2
    · cases h2
    · exact h f h2

/-- The numbers of what Put lays down. -/
def Strict (c : Cmd) : Prop := (0 ≤ c.kind ∧ c.kind ≤ 1048576) ∧ (0 ≤ c.client ∧ c.client ≤ 1048576) ∧ (0 ≤ c.seq ∧ c.seq ≤ 1048576) ∧ (0 ≤ c.set ∧ c.set ≤ 1048576) ∧ (0 ≤ c.id ∧ c.id ≤ 1048576) ∧ (0 ≤ c.n ∧ c.n ≤ 1048576)
theorem needs_le {x : Int} {u : Bool} {a b : Int} (h : needs x u a b = true) (ha : 0 ≤ a) (hb : b ≤ 1048576) : 0 ≤ x ∧ x ≤ 1048576 := by
  unfold needs at h
  split at h
  · have := inR_iff.1 h; omega
  · simp at h; omega
theorem put_strict {c : Cmd} {rest : List Fel} {v : Int} {b : List Nat} (h : putC c rest v = (b, 0)) : Strict c := by
  unfold putC at h
  split at h
  · injection h with _ h; cases h
  split at h
  · rename_i h2
    injection h with _ h
    exact absurd h h2.2
  rename_i h2
  cases hf : foreignC c v with
  | true =>
    unfold foreignC forNum at hf
    simp only [Bool.and_eq_true, inR_iff] at hf
    obtain ⟨h1, _, ⟨h3, h4, h5, h6, h7⟩, _⟩ := hf
    exact ⟨by omega, h3, h4, h5, h6, h7⟩
  | false =>
    have hm : mayC c v = 0 := by
      rcases Decidable.em (mayC c v = 0) with h3 | h3
      · exact h3
      · exact absurd ⟨hf, h3⟩ h2
    unfold mayC at hm
    split at hm
    · cases hm
    rename_i h1
    split at hm
    · cases hm
    split at hm
    · rename_i h3
      simp only [Bool.and_eq_true] at h3
      obtain ⟨hn, _, _⟩ := h3
      have hk : need c.kind ≠ 0 := fun e => h1 (.inr e)
      have hkk := need_kind hk
      unfold mayNum at hn
      simp only [Bool.and_eq_true] at hn
      obtain ⟨a1, a2, a3, a4, a5⟩ := hn
      exact ⟨by omega, needs_le a1 (by omega) (by omega), needs_le a2 (by omega) (by omega), needs_le a3 (by omega) (by omega), needs_le a4 (by omega) (by omega), needs_le a5 (by split <;> omega) (by split; omega; split <;> omega)⟩
    · cases hm
theorem asInt_of {x : Nat} (hx : x < 18446744073709551616) (h : 0 ≤ asInt x ∧ asInt x ≤ 1048576) : asInt x = cutN x := by
  unfold asInt cutN at *
  rw [IntKind.wrap_i64] at *
  omega
theorem cutN_of {x : Nat} (h : 0 ≤ cutN x ∧ cutN x ≤ 1048576) : asInt x = cutN x := by
  unfold asInt cutN at *
  rw [IntKind.wrap_i64]
  omega
theorem cmd_same {l : List Fel} (hl : ∀ f ∈ l, Fok f) (h : Strict (cmdP l) ∨ Strict (cmdOf l)) : cmdP l = cmdOf l := by
  have hw := fun i => (lastFel_ok hl i).1.1
  rw [cmdOf_last] at *
  show pOf (lastFel l) = gOf (lastO l)
  have key : ∀ i, (0 ≤ asInt (lastFel l i).n ∧ asInt (lastFel l i).n ≤ 1048576) ∨ (0 ≤ cutN ((lastO l i).getD zFel).n ∧ cutN ((lastO l i).getD zFel).n ≤ 1048576) → asInt (lastFel l i).n = cutN ((lastO l i).getD zFel).n := fun i h => by
    rcases h with h | h
    · exact asInt_of (hw i) h
    · exact cutN_of h
  have g : asInt (lastFel l 1).n = cutN ((lastO l 1).getD zFel).n ∧ asInt (lastFel l 2).n = cutN ((lastO l 2).getD zFel).n ∧ asInt (lastFel l 3).n = cutN ((lastO l 3).getD zFel).n ∧ asInt (lastFel l 4).n = cutN ((lastO l 4).getD zFel).n ∧ asInt (lastFel l 5).n = cutN ((lastO l 5).getD zFel).n ∧ asInt (lastFel l 6).n = cutN ((lastO l 6).getD zFel).n := by
    rcases h with ⟨h1, h2, h3, h4, h5, h6⟩ | ⟨h1, h2, h3, h4, h5, h6⟩
    · exact ⟨key 1 (.inl h1), key 2 (.inl h2), key 3 (.inl h3), key 4 (.inl h4), key 5 (.inl h5), key 6 (.inl h6)⟩
    · exact ⟨key 1 (.inr h1), key 2 (.inr h2), key 3 (.inr h3), key 4 (.inr h4), key 5 (.inr h5), key 6 (.inr h6)⟩
  obtain ⟨g1, g2, g3, g4, g5, g6⟩ := g
  unfold pOf gOf
  rw [g1, g2, g3, g4, g5, g6]
  rfl
/-- What comes of it is the same. -/
theorem take_same {l rest : List Fel} {v : Int} {b : List Nat} (hl : ∀ f ∈ l, Fok f) :
    (if putC (cmdP l) rest v = (b, 0) then (cmdP l, rest, 0) else (noCmd, ([] : List Fel), 6)) = (if putC (cmdOf l) rest v = (b, 0) then (cmdOf l, rest, 0) else (noCmd, [], 6)) := by
  by_cases h : putC (cmdP l) rest v = (b, 0)
  · rw [cmd_same hl (.inl (put_strict h))]
  · by_cases h2 : putC (cmdOf l) rest v = (b, 0)
    · rw [cmd_same hl (.inr (put_strict h2))]
    · rw [if_neg h, if_neg h2]

/-- Fields and where their bytes lie. -/
abbrev Fpl := Fel × (Option Addr × Nat)
def lastP (zs : List Fpl) (i : Int) : Option Fpl := zs.foldl (fun a p => if p.1.num = i then some p else a) none
def atF (zs : List Fpl) (i : Int) : Fpl := (lastP zs i).getD (zFel, (none, 0))
theorem lastP_snoc (zs : List Fpl) (p : Fpl) (i : Int) : lastP (zs ++ [p]) i = if p.1.num = i then some p else lastP zs i := by
  unfold lastP
  rw [List.foldl_append]
  rfl
theorem lastP_fst (zs : List Fpl) (i : Int) : (lastP zs i).map (·.1) = lastO (zs.map (·.1)) i := by
  unfold lastP lastO
  suffices h : ∀ (zs : List Fpl) (a : Option Fpl), (zs.foldl (fun a p => if p.1.num = i then some p else a) a).map (·.1) = (zs.map (·.1)).foldl (fun a f => if f.num = i then some f else a) (a.map (·.1)) from h zs none
  intro zs
  induction zs with
  | nil => intro a; rfl
  | cons p zs ih =>
    intro a
    rw [List.foldl_cons, ih, List.map_cons, List.foldl_cons]
    congr 1
    split <;> rfl
theorem atF_fst (zs : List Fpl) (i : Int) : (atF zs i).1 = lastFel (zs.map (·.1)) i := by
  unfold atF lastFel
  rw [← lastP_fst]
  cases lastP zs i <;> rfl
theorem lastP_mem {i : Int} {p : Fpl} : ∀ {l : List Fpl} {a : Option Fpl}, l.foldl (fun a p => if p.1.num = i then some p else a) a = some p → a = some p ∨ p ∈ l
  | [], _, h => .inl h
  | g :: l, a, h => by
    rw [List.foldl_cons] at h
    rcases lastP_mem (l := l) h with h | h
    · split at h
      · injection h with h; subst h; exact .inr (by simp)
      · exact .inl h
    · exact .inr (by simp [h])
end Go.Proofs.Ytkagonijkalicaa

/-
  The walks of the landed command.Project, and of slices.Clone of numbers.
-/
namespace Go.Proofs.Ytkagonijkalicaa
open Go.RowKit
open Cm (Cmd project)

theorem nil_no (ad : Addr) (n c : Nat) (w : World) : (binOp BinOp.eql 22 (.slice (some ad) n c) (.slice none 0 0)).run Try.prog w = .ok (.bool false) w := by kernel_rfl
theorem nil_yes (c : Nat) (w : World) : (binOp BinOp.eql 22 (.slice none 0 c) (.slice none 0 0)).run Try.prog w = .ok (.bool true) w := by kernel_rfl

set_option maxHeartbeats 1000000 in
set_option maxRecDepth 100000 in
theorem clone_ints (A : Option Addr) (n c : Nat) (l : List Int) (w : World) (h : Rd w w.heap.size 1 A n (ivs l)) (hnc : n ≤ c) (hmax : c ≤ 9223372036854775807) (hn : n ≤ 20000) :
    Calls Try.prog 40 #[.slice A n c] w fun e w' => ∃ v, e = .returned v ∧ w'.ownsRow w.heap.size 3 1 v n (ivs l) ∧ Below w.heap.size w w' := by
  obtain ⟨i0, hi, hz0, hz1, hz2⟩ := info_parts int_info
  have hlen : l.length = n := by have := h.1; rw [ivs_len] at this; omega
  have HR := Lib.hid h
  have HL := Lib.hid hlen
  cases A with
  | none =>
    obtain rfl : n = 0 := by
      rcases h.2 with h0 | ⟨ad, hA, _⟩
      · exact h0
      · cases hA
    obtain rfl : l = [] := List.length_eq_zero_iff.1 hlen
    have hq := nil_yes c w
    clear h hlen
    go_enter Try.func40, Try.ntmps40
    go_wp2
    go_ret
    exact ⟨_, rfl, World.ownsRow_nil _ _ _ _, Below.refl _ _⟩
  | some ad =>
    have hq := nil_no ad n c w
    clear h hlen
    go_enter Try.func40, Try.ntmps40
    go_wp2_with (at_builtin; refine wpList_append_rd _ rfl (.tmp 5) (.tmp 6) 22 rfl w.heap.size 3 i0 (.int .i64 0) 1 8 Try.underlying22 hi hz0 hz1 hz2 rfl (by decide) _ 0 [] rfl (World.ownsRow_made (e := 3) (size := 1) (base := w.heap.size) w #[] 0 (Nat.le_refl _) (by unfold maxLen; omega) rfl) w.heap.size (some ad) n c (ivs l) rfl (HR.out.alloc (Nat.le_refl _) _) (ivs_one l) (by unfold maxLen; omega) (by omega) (by simp) ?_)
    intro v3 w3 hown3 hg3
    have hb3 : Below w.heap.size w w3 := ((Below.refl _ _).alloc (Nat.le_refl _) _).grown hg3 (by simp) (fun k hk => by simp [Value.ownBlock] at hk; omega)
    have HO3 := Lib.hid hown3
    clear hown3 hg3
    go_wp2
    go_ret
    exact ⟨_, rfl, HO3.out, hb3⟩

set_option maxHeartbeats 4000000 in
set_option maxRecDepth 100000 in
theorem project_c (c : Cmd) (s : Option Addr × Nat) (v : Int) (w : World) (h : RdC w w.heap.size c s) (hc : Cok c) (_hv : I64 v) : Calls Try.prog 20 #[cagg c s, .int .i64 v] w (CmdBack w (project c v)) := by
  obtain ⟨g, hg⟩ : ∃ g, g = w.heap.size := ⟨_, rfl⟩
  obtain ⟨w0, hw0⟩ : ∃ w0 : World, w0 = (w.alloc (.cells (cblk c s) 24)).alloc (.cells zeros 24) := ⟨_, rfl⟩
  have hb0 : Below w.heap.size w w0 := by rw [hw0]; exact ((Below.refl _ _).alloc (Nat.le_refl _) _).alloc (by simp) _
  have hs0 : w.heap.size + 2 = w0.heap.size := by rw [hw0]; simp
  have hk0 : Blk w0 g 24 (cblk c s) := by rw [hw0, hg]; exact (Blk.new _ _ _).alloc _
  have hk1 : Blk w0 (g + 1) 24 zeros := by rw [hw0, hg]; simpa using Blk.new (w.alloc (.cells (cblk c s) 24)) zeros 24
  have hr0 := (h.below hb0).more hb0.size
  have HCL := Lib.hid (clone_ints s.1 c.chunks.length s.2 c.chunks w0 hr0.1 hr0.2.1 hr0.2.2 hc.2.2.2.1)
  obtain ⟨k0, k1, k2, k3, k4, k5, k6, k7⟩ := cblk_cells hk0
  have HW := Lib.hid hw0
  have HK := Lib.hid hk0
  have HZ := Lib.hid hk1
  have HS := Lib.hid hs0
  have HG := Lib.hid hg
  obtain ⟨P, hP⟩ : ∃ P, project c v = P := ⟨_, rfl⟩
  have HP := Lib.hid hP
  have HPC := Lib.hid (show P.chunks = c.chunks by rw [← hP]; exact project_chunks c v)
  rw [hP]
  unfold cagg cblk
  go_enter Try.func20, Try.ntmps20
  go_upto_region 1 with fail
  rw [show (w.alloc (.cells #[.int .i64 c.kind, .int .i64 c.client, .int .i64 c.seq, .int .i64 c.set, .int .i64 c.id, .int .i64 c.n, .slice s.1 c.chunks.length s.2, .string (strOf c.text)] 24)).alloc (.cells #[.int .i64 0, .int .i64 0, .int .i64 0, .int .i64 0, .int .i64 0, .int .i64 0, .slice none 0 0, .string ⟨#[]⟩] 24) = w0 from HW.out.symm, ← hg]
  clear hw0 hk0 hk1 hs0 hg hP h hr0 HW
  go_wp2_with fail
  refine HCL.out.mono ?_
  rintro e w1 ⟨v1, rfl, hown1, hb1⟩
  obtain ⟨A1, c1, rfl, hc1, hm1⟩ := slice_of_own hown1
  have hat1 := own_at hown1
  have HRD := Lib.hid (Rd.of_own hown1)
  have HK1 := Lib.hid (HK.out.below hb1 HK.out.lt)
  have HZ1 := Lib.hid (HZ.out.below hb1 HZ.out.lt)
  have hbw1 := hb0.trans (hb1.mono hb0.size)
  have hlt1 := HK1.out.lt
  have HAT := Lib.hid hat1
  clear hown1 hb1 k0 k1 k2 k3 k4 k5 k6 k7 hat1 HK HZ
  obtain ⟨k0, k1, k2, k3, k4, k5, k6, k7⟩ := cblk_cells HK1.out
  obtain ⟨f0, f1, f2, f3, f4, f5, f6, f7⟩ := frozen_facts HK1.out
  clear HCL
  by_cases hv : v < 3
  · have hPe : P = { c with text := [] } := by rw [← HP.out]; unfold project; rw [if_pos hv]
    go_upto_region 4 with fail
    obtain ⟨w2, hw2⟩ : ∃ w2 : World, w2 = (w1.setCell ⟨g, 6, none⟩ (.slice A1 c.chunks.length c1)).setCell ⟨g, 7, none⟩ (.string ⟨#[]⟩) := ⟨_, rfl⟩
    have hk2 : Blk w2 g 24 (cblk P (A1, c1)) := by
      rw [hw2, hPe]
      have h5 := ((HK1.out.put 6 (.slice A1 c.chunks.length c1)).put 7 (.string ⟨#[]⟩))
      simpa [cblk, show strOf [] = ⟨#[]⟩ from rfl] using h5
    have hz2 : Blk w2 (g + 1) 24 zeros := by rw [hw2]; exact ((HZ1.out.far (by simp) _).far (by simp) _)
    have hg2 : w1.grownBy w2 (some g) := by rw [hw2]; exact (grown_cell _ _ _ _).trans (grown_cell _ _ _ _)
    clear hPe
    rw [← hw2]
    have hbw2 := hbw1.grown hg2 hbw1.size (fun k hk => by injection hk with hk; have := HG.out; omega)
    have hrd2 := (HRD.out.grown (Nat.le_refl _) hg2 (.inr fun ad had => by have h1 := HAT.out ad had; have h2 := HS.out; have h3 := HG.out; intro e; injection e with e; omega)).more hg2.size
    have HG2 := Lib.hid hg2
    have HW2 := Lib.hid hw2
    clear hw2 hg2 k0 k1 k2 k3 k4 k5 k6 k7 f0 f1 f2 f3 f4 f5 f6 f7
    obtain ⟨k0, k1, k2, k3, k4, k5, k6, k7⟩ := cblk_cells hk2
    obtain ⟨y0, y1, y2, y3, y4, y5, y6, y7⟩ := zeros_facts hz2
    obtain ⟨z0, z1, z2, z3, z4, z5, z6, z7⟩ := frozen_facts hz2
    go_wp2
    (try simp only [Exit.inBlock, Exit.then])
    obtain ⟨h1, h2⟩ := blk_set8 hz2 (.int .i64 P.kind) (.int .i64 P.client) (.int .i64 P.seq) (.int .i64 P.set) (.int .i64 P.id) (.int .i64 P.n) (.slice A1 P.chunks.length c1) (.string (strOf P.text))
    refine bodyPost_ret (results_cell_row rfl _ _ (g + 1) 24 _ (0, 0) _ rfl h1 Try.underlying24 rfl (by kernel_rfl)) rfl ?_
    have hb3 := hbw2.grown h2 hbw2.size (fun k hk => by injection hk with hk; have := HG.out; omega)
    have hrd3 := (hrd2.grown (Nat.le_refl _) h2 (.inr fun ad had => by have h1 := HAT.out ad had; have h2 := HS.out; have h3 := HG.out; intro e; injection e with e; omega)).more h2.size
    rw [← HPC.out] at hrd3 hc1
    unfold CmdBack
    refine ⟨(A1, c1), ?_, ?_, ?_⟩
    · rfl
    · exact ⟨hrd3, hc1, hm1⟩
    · exact hb3
  · have hPe : P = c := by rw [← HP.out]; unfold project; rw [if_neg hv]
    go_upto_region 4 with fail
    obtain ⟨w2, hw2⟩ : ∃ w2 : World, w2 = w1.setCell ⟨g, 6, none⟩ (.slice A1 c.chunks.length c1) := ⟨_, rfl⟩
    have hk2 : Blk w2 g 24 (cblk P (A1, c1)) := by
      rw [hw2, hPe]
      have h5 := (HK1.out.put 6 (.slice A1 c.chunks.length c1))
      simpa [cblk, show strOf [] = ⟨#[]⟩ from rfl] using h5
    have hz2 : Blk w2 (g + 1) 24 zeros := by rw [hw2]; exact (HZ1.out.far (by simp) _)
    have hg2 : w1.grownBy w2 (some g) := by rw [hw2]; exact grown_cell _ _ _ _
    clear hPe
    rw [← hw2]
    have hbw2 := hbw1.grown hg2 hbw1.size (fun k hk => by injection hk with hk; have := HG.out; omega)
    have hrd2 := (HRD.out.grown (Nat.le_refl _) hg2 (.inr fun ad had => by have h1 := HAT.out ad had; have h2 := HS.out; have h3 := HG.out; intro e; injection e with e; omega)).more hg2.size
    have HG2 := Lib.hid hg2
    have HW2 := Lib.hid hw2
    clear hw2 hg2 k0 k1 k2 k3 k4 k5 k6 k7 f0 f1 f2 f3 f4 f5 f6 f7
    obtain ⟨k0, k1, k2, k3, k4, k5, k6, k7⟩ := cblk_cells hk2
    obtain ⟨y0, y1, y2, y3, y4, y5, y6, y7⟩ := zeros_facts hz2
    obtain ⟨z0, z1, z2, z3, z4, z5, z6, z7⟩ := frozen_facts hz2
    go_wp2
    (try simp only [Exit.inBlock, Exit.then])
    obtain ⟨h1, h2⟩ := blk_set8 hz2 (.int .i64 P.kind) (.int .i64 P.client) (.int .i64 P.seq) (.int .i64 P.set) (.int .i64 P.id) (.int .i64 P.n) (.slice A1 P.chunks.length c1) (.string (strOf P.text))
    refine bodyPost_ret (results_cell_row rfl _ _ (g + 1) 24 _ (0, 0) _ rfl h1 Try.underlying24 rfl (by kernel_rfl)) rfl ?_
    have hb3 := hbw2.grown h2 hbw2.size (fun k hk => by injection hk with hk; have := HG.out; omega)
    have hrd3 := (hrd2.grown (Nat.le_refl _) h2 (.inr fun ad had => by have h1 := HAT.out ad had; have h2 := HS.out; have h3 := HG.out; intro e; injection e with e; omega)).more h2.size
    rw [← HPC.out] at hrd3 hc1
    unfold CmdBack
    refine ⟨(A1, c1), ?_, ?_, ?_⟩
    · rfl
    · exact ⟨hrd3, hc1, hm1⟩
    · exact hb3
end Go.Proofs.Ytkagonijkalicaa

/-
  The walk of the landed command.read: a map of the fields by their numbers, a closure that looks a number up, a command made of it.
-/
namespace Go.Proofs.Ytkagonijkalicaa
open Go.RowKit
open Cm (Cmd row row_mem unchunk noCmd)
open Tl (Fel)

def fieldV (p : Fpl) : Value := .agg (fblk p.1 p.2)
def mapF (zs : List Fpl) (i : Int) : Option Value := (lastP zs i).map fieldV
theorem zero_field (w : World) : (zeroValue 55).run Try.prog w = .ok (fieldV (zFel, (none, 0))) w := by kernel_rfl
theorem mapF_getD (zs : List Fpl) (i : Int) : (mapF zs i).getD (fieldV (zFel, (none, 0))) = fieldV (atF zs i) := by
  unfold mapF atF
  cases lastP zs i <;> rfl
theorem mapF_snoc (zs : List Fpl) (p : Fpl) : upd (mapF zs) p.1.num (fieldV p) = mapF (zs ++ [p]) := by
  funext i
  unfold upd mapF
  rw [lastP_snoc]
  by_cases h : i = p.1.num
  · rw [if_pos h, if_pos h.symm]; rfl
  · rw [if_neg h, if_neg (fun e => h e.symm)]
theorem mapF_nil : mapF [] = fun _ => none := rfl
theorem field_3 (a b c d : Value) (w : World) : (Instr.field 55 (.agg #[a, b, c, d]) 3).run Try.prog w = .ok d w := by kernel_rfl
theorem field_2 (x y z : Int) (A : Option Addr) (n c : Nat) (w : World) : (Instr.field 55 (.agg #[.int .i64 x, .int .i64 y, .int .u64 z, .slice A n c]) 2).run Try.prog w = .ok (.int .u64 z) w := by kernel_rfl

set_option maxHeartbeats 1000000 in
set_option maxRecDepth 100000 in
theorem numat_c (gm bm n : Nat) (zs : List Fpl) (i : Int) (w : World) (h0 : -9223372036854775808 ≤ i) (h1 : i ≤ 9223372036854775807) (hk : Blk w gm 107 #[.map (some bm)]) (hm : MapI Try.prog 3 w bm n (mapF zs)) :
    Calls Try.prog 76 #[.int .i64 i, .pointer (some ⟨gm, 0, none⟩)] w fun e w' => e = .returned (.int .i64 (asInt (atF zs i).1.n)) ∧ w = w' := by
  have c0 := hk.cell 0
  simp at c0
  have hl := hm.look (T := 107) Try.underlying3 Try.underlying107 (zero_field w) h0 h1
  rw [mapF_getD] at hl
  have ha := asInt_wrap64 (atF zs i).1.n
  generalize atF zs i = p at hl ha
  unfold fieldV fblk at hl
  have hf := field_2 p.1.num p.1.wire (p.1.n : Int) p.2.1 p.1.b.length p.2.2 w
  have HA := Lib.hid ha
  clear hk hm ha
  go_enter Try.func76, Try.ntmps76
  go_wp2
  go_ret
  exact ⟨by rw [HA.out]; rfl, rfl⟩

theorem puts_out {l : List Oper} {vs : Tmp → Value} {a0 : Act} {n : Nat} {t : Tmp} (hn : a0.tmps.size = n) (h : ((l.all fun p => (p.dst.map fun d => decide (d < n)).getD true) && !l.any fun p => p.dst == some t) = true) : slot (putsOf l vs a0) t = slot a0 t := by
  rw [Bool.and_eq_true] at h
  rw [slot_putsOf _ _ _ _ (fun o ho d hd => by
    have := List.all_eq_true.1 h.1 o ho
    rw [hd] at this
    rw [hn]
    simpa using this)]
  rw [if_neg (by simpa using h.2)]
theorem end_store {P : Program} {ops : Array Oper} {o : Oper} {l : List Oper} {vs : Tmp → Value} {a0 : Act} {n g : Nat} {p x : Tmp} {ty T : TypeId} {cells old : Array Value} {w : World} {Q : Act → World → Prop} (hg : o.guard = none) (hdst : o.dst = none) (ho : o.op = .store ty (.tmp p) (.tmp x)) (hn : a0.tmps.size = n)
    (hp : ((l.all fun p => (p.dst.map fun d => decide (d < n)).getD true) && !l.any fun q => q.dst == some p) = true) (hp0 : slot a0 p = .pointer (some ⟨g, 0, none⟩)) (hx : ((l.all fun p => (p.dst.map fun d => decide (d < n)).getD true) && l.any fun q => q.dst == some x) = true) (hx0 : vs x = .agg cells)
    (hblk : Blk w g T old) (hi : (P.info? ty).map (·.size) = some cells.size) (hold : old.size = cells.size) (h1 : cells.all (·.oneCell') = true) (hQ : ∀ fr : Act, slot fr p = .pointer (some ⟨g, 0, none⟩) → fr.defers = a0.defers → Q fr (w.setRow g cells)) :
    Region.wanted o (yielded ops (putsOf l vs a0).tmps) = true ∧ o.wp P (putsOf l vs a0) w Q (fun _ _ _ => False) := by
  have q2 := (puts_out (vs := vs) hn hp).trans hp0
  have q46 := (puts_in (vs := vs) hn hx).trans hx0
  have hd := defers_putsOf l vs a0
  generalize putsOf l vs a0 = fr at *
  refine ⟨by simp [Region.wanted, hg], wp_store_row ty (.tmp p) (.tmp x) ho g cells (by rw [eval_slot]; exact q2) (by rw [eval_slot]; exact q46) T old hblk hi hold h1 (by rw [hdst]; exact hQ fr q2 hd)⟩
theorem cblk_one (c : Cmd) (s : Option Addr × Nat) : (cblk c s).all (·.oneCell') = true := by simp [cblk, Value.oneCell']
set_option maxHeartbeats 4000000 in
set_option maxRecDepth 100000 in
theorem read_c (A : Option Addr) (n c : Nat) (kl : List Fel) (S : List (Option Addr × Nat)) (w : World) (h : RdF w w.heap.size A n kl S) (hn : n ≤ 20000) (hF : ∀ f ∈ kl, Fok f) :
    Calls Try.prog 57 #[.slice A n c] w (CmdBack w (cmdP kl)) := by
  have hmf : ∀ (fn : Fn) (first cap : Array Value) (w : World), (Instr.makeFunc fn first cap).run Try.prog w = .ok (.func fn first cap) w := fun _ _ _ _ => rfl
  have hmm := @run_makeMap Try.prog
  obtain ⟨gr, hgr⟩ : ∃ gr, gr = w.heap.size := ⟨_, rfl⟩
  obtain ⟨bm, hbm⟩ : ∃ bm, bm = w.heap.size + 1 := ⟨_, rfl⟩
  obtain ⟨gm, hgm⟩ : ∃ gm, gm = w.heap.size + 2 := ⟨_, rfl⟩
  obtain ⟨zs, hzs⟩ : ∃ zs, kl.zip S = zs := ⟨_, rfl⟩
  obtain ⟨w0, hw0⟩ : ∃ w0 : World, w0 = ((w.alloc (.cells zeros 24)).alloc (.map #[] 0)).alloc (.cells #[.map (some bm)] 107) := ⟨_, rfl⟩
  have hb0 : Below w.heap.size w w0 := by rw [hw0]; exact (((Below.refl _ _).alloc (Nat.le_refl _) _).alloc (by simp) _).alloc (by simp; omega) _
  have hk0 : Blk w0 gr 24 zeros := by rw [hw0, hgr]; exact ((Blk.new _ _ _).alloc _).alloc _
  have hkm : Blk w0 gm 107 #[.map (some bm)] := by rw [hw0, hgm]; simpa using Blk.new ((w.alloc (.cells zeros 24)).alloc (.map #[] 0)) #[.map (some bm)] 107
  have hmap : MapI Try.prog 3 w0 bm 0 (mapF (zs.take 0)) := by
    rw [hw0, List.take_zero, mapF_nil, hbm]
    have h1 := (MapI.made Try.prog 3 (w.alloc (.cells zeros 24))).alloc (.cells #[.map (some (w.heap.size + 1))] 107)
    simpa using h1
  have hzl : zs.length = n := by rw [← hzs, List.length_zip, h.1, h.2.1, Nat.min_self]
  have hfst : zs.map (·.1) = kl := by rw [← hzs]; exact List.map_fst_zip (by rw [h.1, h.2.1]; exact Nat.le_refl _)
  have hget : ∀ (k : Nat) (f : Fel) (s : Option Addr × Nat), kl[k]? = some f → S[k]? = some s → zs[k]? = some (f, s) := fun k f s h1 h2 => by
    rw [← hzs, List.getElem?_zip_eq_some]; exact ⟨h1, h2⟩
  have hsrc : ∀ i, Rd w w.heap.size 1 (atF zs i).2.1 (atF zs i).1.b.length (bvs (atF zs i).1.b) ∧ (atF zs i).1.b.length ≤ (atF zs i).2.2 ∧ (atF zs i).2.2 ≤ 9223372036854775807 := fun i => by
    unfold atF
    cases hl : lastP zs i with
    | none => exact ⟨Rd.nil _ _ _ _, Nat.le_refl _, by simp⟩
    | some p =>
      rcases lastP_mem (l := zs) hl with h2 | h2
      · cases h2
      · obtain ⟨k, hk, hkp⟩ := List.getElem_of_mem h2
        have hkp2 : zs[k]? = some (p.1, p.2) := by rw [List.getElem?_eq_getElem hk, hkp]
        rw [← hzs, List.getElem?_zip_eq_some] at hkp2
        exact h.2.2.2 k p.1 p.2 hkp2.1 hkp2.2
  have HR := Lib.hid h
  have HW := Lib.hid hw0
  have HK := Lib.hid hk0
  have HKM := Lib.hid hkm
  have HM := Lib.hid hmap
  have HZL := Lib.hid hzl
  have HFST := Lib.hid hfst
  have HGET := Lib.hid hget
  have HSRC := Lib.hid hsrc
  have HF := Lib.hid hF
  have HGR := Lib.hid hgr
  have HBM := Lib.hid hbm
  have HGM := Lib.hid hgm
  obtain ⟨P, hP⟩ : ∃ P, cmdP kl = P := ⟨_, rfl⟩
  rw [hP]
  have HP := Lib.hid hP
  go_enter Try.func57, Try.ntmps57
  go_upto_region 2 with fail
  rw [show ((w.alloc (.cells #[.int .i64 0, .int .i64 0, .int .i64 0, .int .i64 0, .int .i64 0, .int .i64 0, .slice none 0 0, .string ⟨#[]⟩] 24)).alloc (.map #[] 0)).alloc (.cells #[.map (some (w.heap.size + 1))] 107) = w0 from by rw [← hbm]; exact HW.out.symm, ← hgm, ← hbm, ← hgr]
  clear hw0 hk0 hkm hmap hzl hfst hget hsrc h hF hgr hbm hgm hzs hP HW
  go_wp2
  go_loopw [12] (fun i wr => ∃ j : Nat, j ≤ n ∧ i = .int .i64 (j : Int) ∧ MapI Try.prog 3 wr bm j (mapF (zs.take j)) ∧ Blk wr gm 107 #[.map (some bm)] ∧ Blk wr gr 24 zeros ∧ Below w.heap.size w wr) (fun i _ => n - (intOf i).toNat)
  case atStart => exact ⟨0, Nat.zero_le _, rfl, HM.out, HKM.out, HK.out, hb0⟩
  case round =>
    obtain ⟨j, hj, rfl, hmap, hkm, hkr, hb⟩ := hrel
    have HMP := Lib.hid hmap
    have HKM2 := Lib.hid hkm
    have HKR2 := Lib.hid hkr
    have hsz := hb.size
    have hgml := hkm.lt
    have hgrl := hkr.lt
    have hbml := hmap.lt
    have c0 := hkm.cell 0
    simp at c0
    clear hmap hkm hkr HM HKM HK
    by_cases hlt : j < n
    · obtain ⟨ad, f, sf, rfl, hab, hf, hs, r0, r1, r2, r3, hrd, hs1', hs2'⟩ := (HR.out.below hb).spell hlt
      have hok := HF.out f (List.mem_of_getElem? hf)
      have HTK := Lib.hid (show zs.take (j + 1) = zs.take j ++ [(f, sf)] by rw [List.take_add_one, HGET.out j f sf hf hs]; rfl)
      have hn0 := hok.2.1
      have hn1 := hok.2.2.1
      clear hf hs hok hrd
      go_wp2_with (at_mapUpdate; refine wpList_store_map _ rfl _ _ _ 107 rfl 3 55 Try.underlying3 Try.underlying107 bm j (mapF (zs.take j)) (HMP.out.alloc _) (by unfold maxLen; omega) f.num (by omega) (by omega) (fieldV (f, sf)) rfl rfl rfl ?_; intro w2 hm2 hg2)
      have hb2 := (hb.alloc hsz _).grown hg2 (by simp; omega) (fun k hk => by injection hk with hk; have := HBM.out; omega)
      rw [mapF_snoc (zs.take j) (f, sf), ← HTK.out] at hm2
      have hkm2 : Blk w2 gm 107 #[.map (some bm)] := (hg2.block gm (by simp; omega) (fun e => by injection e with e; have := HBM.out; have := HGM.out; omega)).trans (HKM2.out.alloc _)
      have hkr2 : Blk w2 gr 24 zeros := (hg2.block gr (by simp; omega) (fun e => by injection e with e; have := HBM.out; have := HGR.out; omega)).trans (HKR2.out.alloc _)
      have HM2 := Lib.hid hm2
      have HK3 := Lib.hid hkm2
      have HK4 := Lib.hid hkr2
      clear hm2 hg2 hkm2 hkr2
      go_roundw
      case rel => exact ⟨j + 1, by omega, by go_num, HM2.out, HK3.out, HK4.out, hb2⟩
      case measure => simp [intOf]; omega
    · obtain rfl : j = n := by omega
      have hmap := HMP.out
      rw [List.take_of_length_le (by have := HZL.out; omega)] at hmap
      have HM7 := Lib.hid hmap
      have hl7 := hmap.look (T := 107) Try.underlying3 Try.underlying107 (zero_field wr) (i := 7) (by decide) (by decide)
      rw [mapF_getD] at hl7
      have h7f : (atF zs 7).1 = lastFel kl 7 := by rw [atF_fst, HFST.out]
      have hsr7 := HSRC.out 7
      have hb7 : ∀ c ∈ (atF zs 7).1.b, c < 256 := by rw [h7f]; exact (lastFel_ok HF.out 7).1.2
      have hlen7 : (atF zs 7).1.b.length ≤ 17000 := by rw [h7f]; exact (lastFel_ok HF.out 7).2.2.2.2.2
      have hun := unchunk_c (atF zs 7).2.1 (atF zs 7).1.b.length (atF zs 7).2.2 (atF zs 7).1.b wr hb7 ((hsr7.1.below hb).more hsz) hsr7.2.1 hsr7.2.2 (by omega)
      have hu7 : unchunk (atF zs 7).1.b = unchunk (lastFel kl 7).b := by rw [h7f]
      rw [hu7] at hun
      have HUN := Lib.hid hun
      generalize atF zs 7 = p7 at hl7 HUN
      unfold fieldV fblk at hl7
      have hf7 := field_3 (.int .i64 p7.1.num) (.int .i64 p7.1.wire) (.int .u64 (p7.1.n : Int)) (.slice p7.2.1 p7.1.b.length p7.2.2) wr
      clear hmap hun hu7 h7f hsr7 hb7 hlen7
      go_wp2_with fail
      refine HUN.out.mono ?_
      rintro _ w8 ⟨v7, rfl, hnn, hb8⟩
      obtain ⟨A7, n7, c7, rfl, hnc7, hc7, hln7, hrd7⟩ := hnn
      obtain rfl : (unchunk (lastFel kl 7).b).1.length = n7 := hln7
      have hbw8 := hb.trans (hb8.mono hsz)
      have hsz8 := hbw8.size
      have HM8 := Lib.hid (HM7.out.below hb8 HM7.out.lt)
      have HKM8 := Lib.hid (HKM2.out.below hb8 HKM2.out.lt)
      have HKR8 := Lib.hid (HKR2.out.below hb8 HKR2.out.lt)
      have HR7 := Lib.hid hrd7
      clear hrd7 hb8 hl7 hf7 c0 hgml hgrl hbml HUN
      have HN1 := numat_c gm bm j zs 1 w8.drew (by decide) (by decide) HKM8.out HM8.out.drew
      have HN2 := numat_c gm bm j zs 2 w8.drew (by decide) (by decide) HKM8.out HM8.out.drew
      have HN3 := numat_c gm bm j zs 3 w8.drew (by decide) (by decide) HKM8.out HM8.out.drew
      have HN4 := numat_c gm bm j zs 4 w8.drew (by decide) (by decide) HKM8.out HM8.out.drew
      have HN5 := numat_c gm bm j zs 5 w8.drew (by decide) (by decide) HKM8.out HM8.out.drew
      have HN6 := numat_c gm bm j zs 6 w8.drew (by decide) (by decide) HKM8.out HM8.out.drew
      have hnf : ∀ i, (atF zs i).1 = lastFel kl i := fun i => by rw [atF_fst, HFST.out]
      rw [hnf] at HN1 HN2 HN3 HN4 HN5 HN6
      have hl8 := (HM8.out.drew).look (T := 107) Try.underlying3 Try.underlying107 (zero_field w8.drew) (i := 8) (by decide) (by decide)
      rw [mapF_getD] at hl8
      have hsr8 := HSRC.out 8
      have h8f := hnf 8
      have hpp : P = ⟨asInt (lastFel kl 1).n, asInt (lastFel kl 2).n, asInt (lastFel kl 3).n, asInt (lastFel kl 4).n, asInt (lastFel kl 5).n, asInt (lastFel kl 6).n, (unchunk (lastFel kl 7).b).1, (atF zs 8).1.b⟩ := by rw [← HP.out, h8f]; rfl
      have HPP := Lib.hid hpp
      have hstr8 := run_str (P := Try.prog) w8.drew 25 9 5 Try.underlying25 Try.underlying5 Try.underlying9 ((hsr8.1.below hbw8).more hsz8 : Rd w8.drew w8.heap.size 1 (atF zs 8).2.1 (atF zs 8).1.b.length (bvs (atF zs 8).1.b)) (atF zs 8).2.2
      have x0d : w8.drew.cell? ⟨gm, 0, none⟩ = some (.map (some bm)) := HKM8.out.cell 0
      unfold fieldV fblk at hl8
      generalize asInt (lastFel kl 1).n = N1 at HN1 HPP
      generalize asInt (lastFel kl 2).n = N2 at HN2 HPP
      generalize asInt (lastFel kl 3).n = N3 at HN3 HPP
      generalize asInt (lastFel kl 4).n = N4 at HN4 HPP
      generalize asInt (lastFel kl 5).n = N5 at HN5 HPP
      generalize asInt (lastFel kl 6).n = N6 at HN6 HPP
      replace HN1 := Lib.hid HN1
      replace HN2 := Lib.hid HN2
      replace HN3 := Lib.hid HN3
      replace HN4 := Lib.hid HN4
      replace HN5 := Lib.hid HN5
      replace HN6 := Lib.hid HN6
      clear hpp hnf hsr8 h8f
      generalize (atF zs 8).1.b = T8 at hl8 hstr8 HPP
      generalize (atF zs 8).2.1 = B8 at hl8 hstr8
      generalize (atF zs 8).2.2 = d8 at hl8 hstr8
      generalize (atF zs 8).1.num = X8 at hl8
      generalize (atF zs 8).1.wire = Y8 at hl8
      generalize ((atF zs 8).1.n : Int) = Z8 at hl8
      go_upto_region 9 with fail
      refine wp_region_live2 (n := 47) (C := fun wx => wx = w8.drew) (Γ := fun t v _ => v = pickV [(29, .func (.func 76) #[] #[.pointer (some ⟨gm, 0, none⟩)]), (30, .int .i64 N1), (31, .func (.func 76) #[] #[.pointer (some ⟨gm, 0, none⟩)]), (32, .int .i64 N2), (33, .func (.func 76) #[] #[.pointer (some ⟨gm, 0, none⟩)]), (34, .int .i64 N3), (35, .func (.func 76) #[] #[.pointer (some ⟨gm, 0, none⟩)]), (36, .int .i64 N4), (37, .func (.func 76) #[] #[.pointer (some ⟨gm, 0, none⟩)]), (38, .int .i64 N5), (39, .func (.func 76) #[] #[.pointer (some ⟨gm, 0, none⟩)]), (40, .int .i64 N6), (41, .slice A7 (unchunk (lastFel kl 7).b).1.length c7), (42, .map (some bm)), (43, .agg #[.int .i64 X8, .int .i64 Y8, .int .u64 Z8, .slice B8 T8.length d8]), (44, .slice B8 T8.length d8), (45, .string (strOf T8)), (46, .agg #[.int .i64 N1, .int .i64 N2, .int .i64 N3, .int .i64 N4, .int .i64 N5, .int .i64 N6, .slice A7 (unchunk (lastFel kl 7).b).1.length c7, .string (strOf T8)])] t) rfl (by kernel_rfl) (by kernel_rfl) (by kernel_rfl) rfl rfl ⟨?_, ?_, ?_, ?_, ?_, ?_, ?_, ?_, ?_, ?_, ?_, ?_, ?_, ?_, ?_, ?_, ?_, ?_, trivial⟩ ?_
      · refine owedl_val (.func (.func 76) #[] #[.pointer (some ⟨gm, 0, none⟩)]) rfl rfl (fun _ => rfl) fun fr w hC hK => ?_
        have k6 : slot fr 6 = .func (.func 76) #[] #[.pointer (some ⟨gm, 0, none⟩)] := (known_out hK 6 (by kernel_rfl)).trans rfl
        clear hK
        unfold slot at k6
        go_simp
      · refine owedl_of rfl rfl fun fr w hC hK K hk => ?_
        have k29 : slot fr 29 = .func (.func 76) #[] #[.pointer (some ⟨gm, 0, none⟩)] := known_in hK 29 (by kernel_rfl)
        clear hK
        unfold slot at k29
        go_simp
        subst hC
        refine HN1.out.mono ?_
        rintro e w' ⟨rfl, rfl⟩
        exact hk _ _ rfl (fun _ _ _ h => h) rfl
      · refine owedl_val (.func (.func 76) #[] #[.pointer (some ⟨gm, 0, none⟩)]) rfl rfl (fun _ => rfl) fun fr w hC hK => ?_
        have k6 : slot fr 6 = .func (.func 76) #[] #[.pointer (some ⟨gm, 0, none⟩)] := (known_out hK 6 (by kernel_rfl)).trans rfl
        clear hK
        unfold slot at k6
        go_simp
      · refine owedl_of rfl rfl fun fr w hC hK K hk => ?_
        have k31 : slot fr 31 = .func (.func 76) #[] #[.pointer (some ⟨gm, 0, none⟩)] := known_in hK 31 (by kernel_rfl)
        clear hK
        unfold slot at k31
        go_simp
        subst hC
        refine HN2.out.mono ?_
        rintro e w' ⟨rfl, rfl⟩
        exact hk _ _ rfl (fun _ _ _ h => h) rfl
      · refine owedl_val (.func (.func 76) #[] #[.pointer (some ⟨gm, 0, none⟩)]) rfl rfl (fun _ => rfl) fun fr w hC hK => ?_
        have k6 : slot fr 6 = .func (.func 76) #[] #[.pointer (some ⟨gm, 0, none⟩)] := (known_out hK 6 (by kernel_rfl)).trans rfl
        clear hK
        unfold slot at k6
        go_simp
      · refine owedl_of rfl rfl fun fr w hC hK K hk => ?_
        have k33 : slot fr 33 = .func (.func 76) #[] #[.pointer (some ⟨gm, 0, none⟩)] := known_in hK 33 (by kernel_rfl)
        clear hK
        unfold slot at k33
        go_simp
        subst hC
        refine HN3.out.mono ?_
        rintro e w' ⟨rfl, rfl⟩
        exact hk _ _ rfl (fun _ _ _ h => h) rfl
      · refine owedl_val (.func (.func 76) #[] #[.pointer (some ⟨gm, 0, none⟩)]) rfl rfl (fun _ => rfl) fun fr w hC hK => ?_
        have k6 : slot fr 6 = .func (.func 76) #[] #[.pointer (some ⟨gm, 0, none⟩)] := (known_out hK 6 (by kernel_rfl)).trans rfl
        clear hK
        unfold slot at k6
        go_simp
      · refine owedl_of rfl rfl fun fr w hC hK K hk => ?_
        have k35 : slot fr 35 = .func (.func 76) #[] #[.pointer (some ⟨gm, 0, none⟩)] := known_in hK 35 (by kernel_rfl)
        clear hK
        unfold slot at k35
        go_simp
        subst hC
        refine HN4.out.mono ?_
        rintro e w' ⟨rfl, rfl⟩
        exact hk _ _ rfl (fun _ _ _ h => h) rfl
      · refine owedl_val (.func (.func 76) #[] #[.pointer (some ⟨gm, 0, none⟩)]) rfl rfl (fun _ => rfl) fun fr w hC hK => ?_
        have k6 : slot fr 6 = .func (.func 76) #[] #[.pointer (some ⟨gm, 0, none⟩)] := (known_out hK 6 (by kernel_rfl)).trans rfl
        clear hK
        unfold slot at k6
        go_simp
      · refine owedl_of rfl rfl fun fr w hC hK K hk => ?_
        have k37 : slot fr 37 = .func (.func 76) #[] #[.pointer (some ⟨gm, 0, none⟩)] := known_in hK 37 (by kernel_rfl)
        clear hK
        unfold slot at k37
        go_simp
        subst hC
        refine HN5.out.mono ?_
        rintro e w' ⟨rfl, rfl⟩
        exact hk _ _ rfl (fun _ _ _ h => h) rfl
      · refine owedl_val (.func (.func 76) #[] #[.pointer (some ⟨gm, 0, none⟩)]) rfl rfl (fun _ => rfl) fun fr w hC hK => ?_
        have k6 : slot fr 6 = .func (.func 76) #[] #[.pointer (some ⟨gm, 0, none⟩)] := (known_out hK 6 (by kernel_rfl)).trans rfl
        clear hK
        unfold slot at k6
        go_simp
      · refine owedl_of rfl rfl fun fr w hC hK K hk => ?_
        have k39 : slot fr 39 = .func (.func 76) #[] #[.pointer (some ⟨gm, 0, none⟩)] := known_in hK 39 (by kernel_rfl)
        clear hK
        unfold slot at k39
        go_simp
        subst hC
        refine HN6.out.mono ?_
        rintro e w' ⟨rfl, rfl⟩
        exact hk _ _ rfl (fun _ _ _ h => h) rfl
      · refine owedl_val (.slice A7 (unchunk (lastFel kl 7).b).1.length c7) rfl rfl (fun _ => rfl) fun fr w hC hK => ?_
        have k7 : slot fr 7 = .slice A7 (unchunk (lastFel kl 7).b).1.length c7 := (known_out hK 7 (by kernel_rfl)).trans rfl
        clear hK
        unfold slot at k7
        go_simp
      · refine owedl_val (.map (some bm)) rfl rfl (fun _ => rfl) fun fr w hC hK => ?_
        have k3 : slot fr 3 = .pointer (some ⟨gm, 0, none⟩) := (known_out hK 3 (by kernel_rfl)).trans rfl
        clear hK
        unfold slot at k3
        subst hC
        have x0 := x0d
        go_simp
      · refine owedl_val (.agg #[.int .i64 X8, .int .i64 Y8, .int .u64 Z8, .slice B8 T8.length d8]) rfl rfl (fun _ => rfl) fun fr w hC hK => ?_
        have k42 : slot fr 42 = .map (some bm) := known_in hK 42 (by kernel_rfl)
        clear hK
        unfold slot at k42
        subst hC
        have hl := hl8
        go_simp
      · refine owedl_val (.slice B8 T8.length d8) rfl rfl (fun _ => rfl) fun fr w hC hK => ?_
        have k43 : slot fr 43 = .agg #[.int .i64 X8, .int .i64 Y8, .int .u64 Z8, .slice B8 T8.length d8] := known_in hK 43 (by kernel_rfl)
        clear hK
        unfold slot at k43
        subst hC
        have hfd := field_3 (.int .i64 X8) (.int .i64 Y8) (.int .u64 Z8) (.slice B8 T8.length d8) w8.drew
        go_simp
      · refine owedl_val (.string (strOf T8)) rfl rfl (fun _ => rfl) fun fr w hC hK => ?_
        have k44 : slot fr 44 = .slice B8 T8.length d8 := known_in hK 44 (by kernel_rfl)
        clear hK
        unfold slot at k44
        subst hC
        have hs := hstr8
        go_simp
      · refine owedl_val (.agg #[.int .i64 N1, .int .i64 N2, .int .i64 N3, .int .i64 N4, .int .i64 N5, .int .i64 N6, .slice A7 (unchunk (lastFel kl 7).b).1.length c7, .string (strOf T8)]) rfl rfl (fun _ => rfl) fun fr w hC hK => ?_
        have k30 : slot fr 30 = .int .i64 N1 := known_in hK 30 (by kernel_rfl)
        have k32 : slot fr 32 = .int .i64 N2 := known_in hK 32 (by kernel_rfl)
        have k34 : slot fr 34 = .int .i64 N3 := known_in hK 34 (by kernel_rfl)
        have k36 : slot fr 36 = .int .i64 N4 := known_in hK 36 (by kernel_rfl)
        have k38 : slot fr 38 = .int .i64 N5 := known_in hK 38 (by kernel_rfl)
        have k40 : slot fr 40 = .int .i64 N6 := known_in hK 40 (by kernel_rfl)
        have k41 : slot fr 41 = .slice A7 (unchunk (lastFel kl 7).b).1.length c7 := known_in hK 41 (by kernel_rfl)
        have k45 : slot fr 45 = .string (strOf T8) := known_in hK 45 (by kernel_rfl)
        clear hK
        unfold slot at k30 k32 k34 k36 k38 k40 k41 k45
        go_simp
      · intro vs w9 hC hgood
        subst hC
        have h46 : vs 46 = .agg #[.int .i64 N1, .int .i64 N2, .int .i64 N3, .int .i64 N4, .int .i64 N5, .int .i64 N6, .slice A7 (unchunk (lastFel kl 7).b).1.length c7, .string (strOf T8)] := hgood 46 (by kernel_rfl)
        clear hgood
        obtain ⟨cells, hcells⟩ : ∃ cells : Array Value, cells = cblk P (A7, c7) := ⟨_, rfl⟩
        have h46' : vs 46 = .agg cells := by rw [h46, hcells, HPP.out]; rfl
        have hbr := Blk.row (w := w8.drew) HKR8.out cells
        have hrc : RdC w8 w8.heap.size P (A7, c7) := by
          rw [HPP.out]
          exact ⟨HR7.out, hnc7, hc7⟩
        have hpos : ∀ x ∈ P.chunks, 1 ≤ x := by rw [HPP.out]; exact unchunk_pos _
        have hrc2 := rdc_no_zeros (w := w8.drew) hrc HKR8.out (Nat.le_refl _) hbr.2 hpos
        have hend : CmdBack w P (.returned (.agg cells)) (w8.drew.setRow gr cells) := by
          refine ⟨(A7, c7), by rw [hcells]; rfl, hrc2.more hbr.2.size, hbw8.drew.grown hbr.2 hsz8 (fun k hk => by injection hk with hk; have := HGR.out; omega)⟩
        have HE := Lib.hid hend
        have hsz15 : cells.size = 8 := by rw [hcells]; rfl
        have hone : cells.all (·.oneCell') = true := by rw [hcells]; exact cblk_one P (A7, c7)
        clear hcells hrc hpos hrc2 hend hbr
        refine end_store (n := 47) (p := 2) (x := 46) (g := gr) (cells := cells) (T := 24) (old := zeros) rfl rfl rfl rfl (by kernel_rfl) rfl (by kernel_rfl) h46' HKR8.out (by rw [hsz15]; kernel_rfl) hsz15.symm hone fun fr h2 hd => ?_
        unfold slot at h2
        have h2' : fr.tmps.getD 2 undef = .pointer (some ⟨gr, 0, none⟩) := by simpa using h2
        have hrow : (w8.drew.setRow gr cells).heap[gr]? = some (.cells cells 24 (0, 0)) := (Blk.row (w := w8.drew) HKR8.out cells).1
        go_wp2
        (try simp only [Exit.inBlock, Exit.then])
        refine bodyPost_ret (results_cell_row rfl _ _ gr 24 cells (0, 0) _ h2' hrow Try.underlying24 rfl (by rw [hsz15]; kernel_rfl)) hd ?_
        exact HE.out
end Go.Proofs.Ytkagonijkalicaa

/-
  The walk of the landed command.Take.
-/
namespace Go.Proofs.Ytkagonijkalicaa
open Go.RowKit
open Cm (Cmd inR inR_iff row row_mem putC cutN stepC cmdOf known restOf takeC unchunk noCmd)
open Tl (Fel fit takeRow)
open Fo (top check)

set_option maxHeartbeats 1000000 in
set_option maxRecDepth 100000 in
theorem equal_c (A A' : Option Addr) (n n' c c' B : Nat) (a b : List Nat) (w : World) (ha : ∀ c ∈ a, c < 256) (hb : ∀ c ∈ b, c < 256) (h : Rd w B 1 A n (bvs a)) (h' : Rd w B 1 A' n' (bvs b)) :
    Calls Try.prog 58 #[.slice A n c, .slice A' n' c'] w fun e w' => e = .returned (.bool (decide (a = b))) ∧ w = w' := by
  have hsA := run_str (P := Try.prog) w 25 9 5 Try.underlying25 Try.underlying5 Try.underlying9 h c
  have hsB := run_str (P := Try.prog) w 25 9 5 Try.underlying25 Try.underlying5 Try.underlying9 h' c'
  have hq := str_beq ha hb
  obtain ⟨D, hD⟩ : ∃ D, decide (a = b) = D := ⟨_, rfl⟩
  rw [hD] at hq ⊢
  clear h h' ha hb hD
  go_enter Try.func58, Try.ntmps58
  go_wp2
  go_ret
  exact ⟨by first | rfl | (rw [← hq]; rfl), rfl⟩

theorem asInt_ok (x : Nat) : I64 (asInt x) := by unfold I64 asInt; rw [IntKind.wrap_i64]; omega
theorem cmdP_ok {l : List Fel} (h : ∀ f ∈ l, Fok f) : Cok (cmdP l) := by
  have h8 := lastFel_ok h 8
  have h7 := unchunk_ok (lastFel l 7).b
  exact ⟨⟨asInt_ok _, asInt_ok _, asInt_ok _, asInt_ok _, asInt_ok _, asInt_ok _⟩, h7.1, h8.1.2, by show (unchunk (lastFel l 7).b).1.length ≤ 20000; omega, by have := h8.2.2.2.2.2; show (lastFel l 8).b.length ≤ 20000; omega⟩
theorem cmdP_pos (l : List Fel) : ∀ x ∈ (cmdP l).chunks, 1 ≤ x := unchunk_pos _

set_option maxHeartbeats 8000000 in
set_option maxRecDepth 100000 in
theorem take_c (A : Option Addr) (n c : Nat) (bs : List Nat) (v : Int) (w : World) (hb : ∀ c ∈ bs, c < 256) (h : Rd w w.heap.size 1 A n (bvs bs)) (hnc : n ≤ c) (hmax : c ≤ 9223372036854775807) (hv : I64 v) :
    Calls Try.prog 29 #[.slice A n c, .int .i64 v] w (NewCmd w (takeC bs v)) := by
  obtain ⟨v0, v1⟩ := hv
  obtain ⟨w0, hw0⟩ : ∃ w0 : World, w0 = w.alloc (.cells zeros 24) := ⟨_, rfl⟩
  have hk0 : Blk w0 w.heap.size 24 zeros := by rw [hw0]; exact Blk.new _ _ _
  have hb0 : Below w.heap.size w w0 := by rw [hw0]; exact (Below.refl _ _).alloc (Nat.le_refl _) _
  have hs0 : w.heap.size < w0.heap.size := hk0.lt
  obtain ⟨P, hP⟩ : ∃ P, takeC bs v = P := ⟨_, rfl⟩
  rw [hP]
  have HP := Lib.hid hP
  have HW := Lib.hid hw0
  have HK := Lib.hid hk0
  have HR := Lib.hid h
  have HB := Lib.hid hb
  obtain ⟨y0, y1, y2, y3, y4, y5, y6, y7⟩ := zeros_facts hk0
  obtain ⟨z0, z1, z2, z3, z4, z5, z6, z7⟩ := frozen_facts hk0
  clear hw0 hk0 hP h hb
  go_enter Try.func29, Try.ntmps29
  go_upto_region 1 with fail
  rw [show w.alloc (.cells #[.int .i64 0, .int .i64 0, .int .i64 0, .int .i64 0, .int .i64 0, .int .i64 0, .slice none 0 0, .string ⟨#[]⟩] 24) = w0 from HW.out.symm]
  cases hv : inR v 1 3 with
  | false =>
    obtain rfl : P = (noCmd, [], 1) := by rw [← HP.out]; unfold takeC; rw [if_pos hv]
    go_wp2_with (go_at_call 43; refine (version_any v _).mono ?_; rintro _ _ ⟨rfl, rfl⟩; rw [hv])
    (try simp only [Exit.inBlock, Exit.then])
    obtain ⟨h1, h2⟩ := blk_set8 HK.out (.int .i64 0) (.int .i64 0) (.int .i64 0) (.int .i64 0) (.int .i64 0) (.int .i64 0) (.slice none 0 0) (.string ⟨#[]⟩)
    refine bodyPost_ret (results_cell3 rfl _ _ w.heap.size 24 _ (0, 0) _ rfl h1 Try.underlying24 rfl (by kernel_rfl)) rfl ?_
    exact ⟨(none, 0), .slice none 0 0, rfl, RdC.no _ _, newrow_nil _, hb0.grown h2 (Nat.le_of_lt hs0) (fun k hk => by injection hk with hk; omega)⟩
  | true =>
    have hP1 : P = if (takeRow bs).2 ≠ 0 then (noCmd, [], (takeRow bs).2) else if check 1 v (takeRow bs).1 ≠ 0 then (noCmd, [], check 1 v (takeRow bs).1)
        else if putC (cmdOf (known v (takeRow bs).1)) (restOf v (takeRow bs).1) v = (bs, 0) then (cmdOf (known v (takeRow bs).1), restOf v (takeRow bs).1, 0) else (noCmd, [], 6) := by rw [← HP.out]; unfold takeC; rw [if_neg (by rw [hv]; decide)]
    obtain ⟨l, e, hle⟩ : ∃ l e, takeRow bs = (l, e) := ⟨_, _, rfl⟩
    rw [hle] at hP1
    simp only [] at hP1
    have hcall := take_row A n c bs w0 HB.out ((HR.out.below hb0).more (Nat.le_of_lt hs0)) hnc hmax
    rw [hle] at hcall
    simp only [] at hcall
    have HC := Lib.hid hcall
    have HL := Lib.hid hle
    have HP := Lib.hid hP1
    clear hle hcall hP1
    go_wp2_with (first
      | (go_at_call 43; refine (version_any v _).mono ?_; rintro _ _ ⟨rfl, rfl⟩; rw [hv])
      | fail)
    refine HC.out.mono ?_
    rintro _ w1 ⟨u1, rfl, ⟨A1, n1, c1, S1, rfl, hn1, hc1, hrd1⟩, hb1⟩
    have hln1 := hrd1.1
    have hbw1 := hb0.trans (hb1.mono (Nat.le_of_lt hs0))
    have hs1 : w.heap.size < w1.heap.size := Nat.lt_of_lt_of_le hs0 hb1.size
    have HRD1 := Lib.hid hrd1
    have HK1 := Lib.hid (HK.out.below hb1 hs0)
    clear y0 y1 y2 y3 y4 y5 y6 y7 z0 z1 z2 z3 z4 z5 z6 z7
    obtain ⟨y0, y1, y2, y3, y4, y5, y6, y7⟩ := zeros_facts HK1.out
    obtain ⟨z0, z1, z2, z3, z4, z5, z6, z7⟩ := frozen_facts HK1.out
    clear hrd1 hb1
    by_cases he : e = 0
    · subst he
      have htk := took_ok HB.out HL.out
      have HTK := Lib.hid htk.1
      have hl16 := htk.2
      clear htk
      have hn16 : n1 ≤ 16384 := by omega
      have hcheck := check_rec 1 v A1 n1 c1 l S1 w1 (by decide) (by decide) v0 v1 HRD1.out hn1 hc1 (by omega) (fun f hf => (HTK.out f hf).1)
      obtain ⟨m, hm⟩ : ∃ m, check 1 v l = m := ⟨_, rfl⟩
      rw [hm] at hcheck
      have hm8 : m ≤ 6 := by
        rw [← hm]
        unfold Fo.check
        have := Tl.may_err l
        split
        · omega
        split
        · omega
        split <;> omega
      have HM := Lib.hid hm
      have HCK := Lib.hid hcheck
      clear hcheck hm hln1
      go_wp2_with fail
      refine HCK.out.mono ?_
      rintro _ w2 ⟨rfl, hb2⟩
      have hs2 : w.heap.size < w2.heap.size := Nat.lt_of_lt_of_le hs1 hb2.size
      have hbw2 := hbw1.trans (hb2.mono (Nat.le_of_lt hs1))
      have HK2 := Lib.hid (HK1.out.below hb2 hs1)
      clear y0 y1 y2 y3 y4 y5 y6 y7 z0 z1 z2 z3 z4 z5 z6 z7
      obtain ⟨y0, y1, y2, y3, y4, y5, y6, y7⟩ := zeros_facts HK2.out
      obtain ⟨z0, z1, z2, z3, z4, z5, z6, z7⟩ := frozen_facts HK2.out
      by_cases h0 : m = 0
      · subst h0
        have hkok : ∀ f ∈ known v l, Fok f := fun f hf => (HTK.out f (List.mem_filter.1 hf).1).1
        have hrok : ∀ f ∈ restOf v l, Fok f := fun f hf => (HTK.out f (List.mem_filter.1 hf).1).1
        have hp1 : P = if putC (cmdP (known v l)) (restOf v l) v = (bs, 0) then (cmdP (known v l), restOf v l, 0) else (noCmd, [], 6) := by rw [HP.out, if_neg (by simp), HM.out, if_neg (by simp), take_same hkok]
        have HP := Lib.hid hp1
        clear hp1
        go_wp2_with fail
        refine (top_rec 1 v w2 (by decide) (by decide) v0 v1).mono ?_
        rintro _ w3 ⟨rfl, hb3⟩
        have hb13 : Below w1.heap.size w1 w3 := hb2.trans (hb3.mono hb2.size)
        have htop : I64 (top 1 v) := by
          have := top_18 hv
          unfold I64
          omega
        have HSP := Lib.hid (split_row A1 n1 c1 (top 1 v) l S1 w3 ((HRD1.out.below hb13).more hb13.size) hn1 hc1 (by omega) (fun f hf => (HTK.out f hf).1) htop)
        go_wp2_with fail
        refine HSP.out.mono ?_
        rintro _ w4 ⟨u2, u3, rfl, ⟨A2, n2, c2, S2, rfl, hn2, hc2, hrd2⟩, ⟨A3, n3, c3, S3, rfl, hn3, hc3, hrd3⟩, hb4⟩
        have hb14 : Below w1.heap.size w1 w4 := hb13.trans (hb4.mono hb13.size)
        have hbw4 := hbw1.trans (hb14.mono (Nat.le_of_lt hs1))
        have hs4 : w.heap.size < w4.heap.size := Nat.lt_of_lt_of_le hs1 hb14.size
        have HK4 := Lib.hid (HK1.out.below hb14 hs1)
        have hkn : l.filter (fun f => decide (f.num ≤ top 1 v)) = known v l := rfl
        have hre : l.filter (fun f => !decide (f.num ≤ top 1 v)) = restOf v l := rfl
        rw [hkn] at hrd2
        rw [hre] at hrd3
        have hn2' : n2 ≤ 16384 := by
          have h1 := hrd2.1
          have h2 := List.length_filter_le (fun f : Fel => decide (f.num ≤ top 1 v)) l
          rw [hkn] at h2
          have h3 := HRD1.out.1
          omega
        have hn3' : n3 ≤ 16384 := by
          have h1 := hrd3.1
          have h2 := List.length_filter_le (fun f : Fel => !decide (f.num ≤ top 1 v)) l
          rw [hre] at h2
          have h3 := HRD1.out.1
          omega
        obtain ⟨kl, hkl⟩ : ∃ kl, known v l = kl := ⟨_, rfl⟩
        obtain ⟨rl, hrl⟩ : ∃ rl, restOf v l = rl := ⟨_, rfl⟩
        rw [hkl] at hrd2 hkok
        rw [hrl] at hrd3 hrok
        have hp1 := HP.out
        rw [hkl, hrl] at hp1
        have HREAD := Lib.hid (read_c A2 n2 c2 kl S2 w4 hrd2 (by omega) hkok)
        have hcok := cmdP_ok hkok
        have hcpos := cmdP_pos kl
        obtain ⟨C, hC⟩ : ∃ C, cmdP kl = C := ⟨_, rfl⟩
        rw [hC] at hp1 HREAD hcok hcpos
        have HP := Lib.hid hp1
        have HRO := Lib.hid hrok
        have HRD3 := Lib.hid hrd3
        have HCOK := Lib.hid hcok
        have HCPOS := Lib.hid hcpos
        clear hkn hre hkl hrl hp1 hkok hrok hrd2 hrd3 hb2 hb3 hb4 hb13 HSP htop hcok hcpos hC y0 y1 y2 y3 y4 y5 y6 y7 z0 z1 z2 z3 z4 z5 z6 z7
        go_wp2_with fail
        refine HREAD.out.mono ?_
        rintro _ w5 ⟨s, rfl, hrc5, hb5⟩
        have hb15 : Below w4.heap.size w4 w5 := hb5
        obtain ⟨w6, hw6, hk6, hb6, hs6⟩ := box_cmd w5 C s 24
        obtain ⟨gb, hgb⟩ : ∃ gb, gb = w5.heap.size := ⟨_, rfl⟩
        have hb46 : Below w4.heap.size w4 w6 := hb5.trans (hb6.mono hb5.size)
        have hbw6 := hbw4.trans (hb46.mono (Nat.le_of_lt hs4))
        have hs6w : w.heap.size < w6.heap.size := Nat.lt_of_lt_of_le hs4 hb46.size
        have hrc6 := (hrc5.below hb6).more hb6.size
        have HK6 := Lib.hid (HK4.out.below hb46 hs4)
        have HPU := Lib.hid (put_c C s v A3 n3 c3 rl S3 w6 hrc6 HCOK.out ((HRD3.out.below hb46).more hb46.size) hn3 hc3 (by omega) HRO.out ⟨v0, v1⟩)
        have HRC6 := Lib.hid hrc6
        have HRD6 := Lib.hid ((HRD3.out.below hb46).more hb46.size)
        rw [← hgb] at hk6 hs6
        have HKB := Lib.hid hk6
        have HW6 := Lib.hid hw6
        have HGB := Lib.hid hgb
        obtain ⟨pb, pe, hpr⟩ : ∃ pb pe, putC C rl v = (pb, pe) := ⟨_, _, rfl⟩
        have hpby := putC_byte (v := v) HCOK.out HRO.out
        rw [hpr] at HPU hpby
        have hpp := HP.out
        rw [hpr] at hpp
        have HPP := Lib.hid hpp
        have HPB := Lib.hid hpby
        clear hw6 hk6 hrc5 hrc6 hpp hpby hpr HP
        unfold cagg cblk
        go_upto_region 11 with fail
        rw [show w5.alloc (.cells #[.int .i64 C.kind, .int .i64 C.client, .int .i64 C.seq, .int .i64 C.set, .int .i64 C.id, .int .i64 C.n, .slice s.1 C.chunks.length s.2, .string (strOf C.text)] 24) = w6 from HW6.out.symm, ← hgb]
        clear hgb
        obtain ⟨t0, t1, t2, t3, t4, t5, t6, t7⟩ := cblk_cells HKB.out
        unfold cagg cblk at HPU
        go_wp2_with fail
        refine HPU.out.mono ?_
        rintro _ w8 ⟨v8, rfl, hown8, hb8⟩
        obtain ⟨A8, c8, rfl, hc8, hm8'⟩ := slice_of_own hown8
        have hbw8 := hbw6.trans (hb8.mono (Nat.le_of_lt hs6w))
        have hs8 : w.heap.size < w8.heap.size := Nat.lt_of_lt_of_le hs6w hb8.size
        have HK8 := Lib.hid (HK6.out.below hb8 hs6w)
        have HKC8 := Lib.hid (HKB.out.below hb8 hs6)
        have HEQ := Lib.hid (equal_c A8 A _ n c8 c w8.heap.size pb bs w8 HPB.out HB.out (Rd.of_own hown8) ((HR.out.below hbw8).more (Nat.le_of_lt hs8)))
        have HRC8 := Lib.hid ((HRC6.out.below hb8).more hb8.size)
        have HRD8 := Lib.hid ((HRD6.out.below hb8).more hb8.size)
        clear hown8 t0 t1 t2 t3 t4 t5 t6 t7
        obtain ⟨y0, y1, y2, y3, y4, y5, y6, y7⟩ := zeros_facts HK8.out
        obtain ⟨z0, z1, z2, z3, z4, z5, z6, z7⟩ := frozen_facts HK8.out
        obtain ⟨t0, t1, t2, t3, t4, t5, t6, t7⟩ := cblk_cells HKC8.out
        by_cases he0 : pe = 0
        · subst he0
          obtain ⟨D, hD⟩ : ∃ D, decide (pb = bs) = D := ⟨_, rfl⟩
          rw [hD] at HEQ
          go_wp2_with fail
          refine HEQ.out.mono ?_
          rintro _ _ ⟨rfl, rfl⟩
          cases D with
          | true =>
            obtain rfl := of_decide_eq_true hD
            have hpf : P = (C, rl, 0) := by rw [HPP.out, if_pos rfl]
            have HPF := Lib.hid hpf
            clear hD hpf
            go_wp2
            (try simp only [Exit.inBlock, Exit.then])
            obtain ⟨h1, h2⟩ := blk_set8 HK8.out (.int .i64 C.kind) (.int .i64 C.client) (.int .i64 C.seq) (.int .i64 C.set) (.int .i64 C.id) (.int .i64 C.n) (.slice s.1 C.chunks.length s.2) (.string (strOf C.text))
            rw [HPF.out]
            refine bodyPost_ret (results_cell3 rfl _ _ w.heap.size 24 _ (0, 0) _ rfl h1 Try.underlying24 rfl (by kernel_rfl)) rfl ?_
            exact ⟨s, .slice A3 n3 c3, rfl, (rdc_no_zeros HRC8.out HK8.out (Nat.le_refl _) h2 HCPOS.out).more h2.size, ⟨A3, n3, c3, S3, rfl, hn3, hc3, (rdf_no_zeros HRD8.out HK8.out (Nat.le_refl _) h2).more h2.size⟩, hbw8.grown h2 (Nat.le_of_lt hs8) (fun k hk => by injection hk with hk; omega)⟩
          | false =>
            have hne := of_decide_eq_false hD
            have hpf : P = (noCmd, [], 6) := by rw [HPP.out, if_neg (fun e => hne (congrArg Prod.fst e))]
            have HPF := Lib.hid hpf
            clear hD hne hpf
            go_wp2
            (try simp only [Exit.inBlock, Exit.then])
            obtain ⟨h1, h2⟩ := blk_set8 HK8.out (.int .i64 0) (.int .i64 0) (.int .i64 0) (.int .i64 0) (.int .i64 0) (.int .i64 0) (.slice none 0 0) (.string ⟨#[]⟩)
            rw [HPF.out]
            refine bodyPost_ret (results_cell3 rfl _ _ w.heap.size 24 _ (0, 0) _ rfl h1 Try.underlying24 rfl (by kernel_rfl)) rfl ?_
            exact ⟨(none, 0), .slice none 0 0, rfl, RdC.no _ _, newrow_nil _, hbw8.grown h2 (Nat.le_of_lt hs8) (fun k hk => by injection hk with hk; omega)⟩
        · have q : ((pe : Int) != 0) = true := by rw [bne_iff_ne]; omega
          have hpf : P = (noCmd, [], 6) := by rw [HPP.out, if_neg (fun e => he0 (congrArg Prod.snd e))]
          have HPF := Lib.hid hpf
          clear he0 hpf
          go_wp2
          (try simp only [Exit.inBlock, Exit.then])
          obtain ⟨h1, h2⟩ := blk_set8 HK8.out (.int .i64 0) (.int .i64 0) (.int .i64 0) (.int .i64 0) (.int .i64 0) (.int .i64 0) (.slice none 0 0) (.string ⟨#[]⟩)
          rw [HPF.out]
          refine bodyPost_ret (results_cell3 rfl _ _ w.heap.size 24 _ (0, 0) _ rfl h1 Try.underlying24 rfl (by kernel_rfl)) rfl ?_
          exact ⟨(none, 0), .slice none 0 0, rfl, RdC.no _ _, newrow_nil _, hbw8.grown h2 (Nat.le_of_lt hs8) (fun k hk => by injection hk with hk; omega)⟩
      · have q : ((m : Int) != 0) = true := by rw [bne_iff_ne]; omega
        have hp : P = (noCmd, [], m) := by rw [HP.out, HM.out, if_neg (by simp), if_pos h0]
        have HPP := Lib.hid hp
        clear hp h0
        go_wp2
        (try simp only [Exit.inBlock, Exit.then])
        obtain ⟨h1, h2⟩ := blk_set8 HK2.out (.int .i64 0) (.int .i64 0) (.int .i64 0) (.int .i64 0) (.int .i64 0) (.int .i64 0) (.slice none 0 0) (.string ⟨#[]⟩)
        rw [HPP.out]
        refine bodyPost_ret (results_cell3 rfl _ _ w.heap.size 24 _ (0, 0) _ rfl h1 Try.underlying24 rfl (by kernel_rfl)) rfl ?_
        exact ⟨(none, 0), .slice none 0 0, rfl, RdC.no _ _, newrow_nil _, hbw2.grown h2 (Nat.le_of_lt hs2) (fun k hk => by injection hk with hk; omega)⟩
    · have q : ((e : Int) != 0) = true := by rw [bne_iff_ne]; omega
      have hp : P = (noCmd, [], e) := by rw [HP.out, if_pos he]
      have HPP := Lib.hid hp
      clear hp he
      go_wp2
      (try simp only [Exit.inBlock, Exit.then])
      obtain ⟨h1, h2⟩ := blk_set8 HK1.out (.int .i64 0) (.int .i64 0) (.int .i64 0) (.int .i64 0) (.int .i64 0) (.int .i64 0) (.slice none 0 0) (.string ⟨#[]⟩)
      rw [HPP.out]
      refine bodyPost_ret (results_cell3 rfl _ _ w.heap.size 24 _ (0, 0) _ rfl h1 Try.underlying24 rfl (by kernel_rfl)) rfl ?_
      exact ⟨(none, 0), .slice none 0 0, rfl, RdC.no _ _, newrow_nil _, hbw1.grown h2 (Nat.le_of_lt hs1) (fun k hk => by injection hk with hk; omega)⟩
end Go.Proofs.Ytkagonijkalicaa

/-
  The contracts of the landed command: Need, May, Put, Take, Project, Chunks, Unchunk (need_c, may_c, put_c, take_c, project_c, chunks_c, unchunk_c).
-/
