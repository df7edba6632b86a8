/-
  Plain facts for the walk that takes a command.
-/
import Derived.Test.YtkagonijkalicaaCmPut
import Derived.Test.YtkagonijkalicaaCmUn
set_option linter.unusedVariables false
set_option linter.unusedSimpArgs false
namespace Go.Proofs.Ytkagonijkalicaa
open Go.RowKit
open Cm (Cmd inR inR_iff row row_mem putC cutN stepC cmdOf known restOf takeC unchunk noCmd)
open Tl (Fel fit takeRow)
open Fo (top)
open Tg (okTag okTag_iff)

theorem flat_many : ∀ {l : List Fel}, (∀ f ∈ l, fit f = true) → l.length ≤ (Tl.flat l).length
  | [], _ => by simp
  | f :: l, h => by
    have h1 := Tl.one_pos (h f (by simp))
    have h2 := flat_many (l := l) (fun g hg => h g (by simp [hg]))
    rw [Tl.flat_cons, List.length_append, List.length_cons]
    omega
theorem took_ok {bs : List Nat} {l : List Fel} (hb : ∀ c ∈ bs, c < 256) (h : takeRow bs = (l, 0)) : (∀ f ∈ l, Fok f ∧ 1 ≤ f.num) ∧ l.length ≤ 16384 := by
  obtain ⟨h1, h2, h3, h4⟩ := Tl.takeRow_back hb h
  obtain ⟨h5, h6⟩ := Tl.may_zero.1 h2
  have h7 := fun f hf => Tl.mayGo_fit h5 f hf
  refine ⟨fun f hf => ?_, Nat.le_trans (flat_many fun f hf => (h7 f hf).1) h6⟩
  have h8 := okTag_iff.1 (Tl.fit_iff.1 (h7 f hf).1).1
  exact ⟨⟨h4 f hf, by omega, by omega, by omega, by omega, by have := (h7 f hf).2; omega⟩, h8.1⟩
theorem top_18 {v : Int} (h : inR v 1 3 = true) : top 1 v = 7 ∨ top 1 v = 8 := by
  have h1 := inR_iff.1 h
  have : v = 1 ∨ v = 2 ∨ v = 3 := by omega
  rcases this with rfl | rfl | rfl <;> decide
theorem unchunk_ok (b : List Nat) : (∀ x ∈ (unchunk b).1, I64 x) ∧ (unchunk b).1.length ≤ 8 := by
  unfold unchunk
  split
  · rename_i h
    obtain ⟨h1, h2, h3⟩ := row_mem h
    exact ⟨fun x hx => by have := h1 x hx; unfold I64; omega, h3⟩
  · simp
theorem cutN_ok (x : Nat) : 0 ≤ cutN x ∧ cutN x ≤ 1048577 := by unfold cutN; omega
theorem step_ok {c : Cmd} {f : Fel} (hc : Cok c) (hf : Fok f) : Cok (stepC c f) := by
  obtain ⟨⟨h1, h2, h3, h4, h5, h6⟩, h7, h8, h9, h10⟩ := hc
  have hx := cutN_ok f.n
  have hi : I64 (cutN f.n) := by unfold I64; omega
  unfold stepC
  split
  · exact ⟨⟨hi, h2, h3, h4, h5, h6⟩, h7, h8, h9, h10⟩
  split
  · exact ⟨⟨h1, hi, h3, h4, h5, h6⟩, h7, h8, h9, h10⟩
  split
  · exact ⟨⟨h1, h2, hi, h4, h5, h6⟩, h7, h8, h9, h10⟩
  split
  · exact ⟨⟨h1, h2, h3, hi, h5, h6⟩, h7, h8, h9, h10⟩
  split
  · exact ⟨⟨h1, h2, h3, h4, hi, h6⟩, h7, h8, h9, h10⟩
  split
  · exact ⟨⟨h1, h2, h3, h4, h5, hi⟩, h7, h8, h9, h10⟩
  split
  · exact ⟨⟨h1, h2, h3, h4, h5, h6⟩, (unchunk_ok f.b).1, h8, by have := (unchunk_ok f.b).2; show (unchunk f.b).1.length ≤ 20000; omega, h10⟩
  split
  · exact ⟨⟨h1, h2, h3, h4, h5, h6⟩, h7, hf.1.2, h9, by have := hf.2.2.2.2.2; show f.b.length ≤ 20000; omega⟩
  · exact ⟨⟨h1, h2, h3, h4, h5, h6⟩, h7, h8, h9, h10⟩
theorem no_ok : Cok noCmd := ⟨⟨by simp [I64, noCmd], by simp [I64, noCmd], by simp [I64, noCmd], by simp [I64, noCmd], by simp [I64, noCmd], by simp [I64, noCmd]⟩, by simp [noCmd], by simp [noCmd], by simp [noCmd], by simp [noCmd]⟩
theorem fold_ok : ∀ (l : List Fel) (c : Cmd), Cok c → (∀ f ∈ l, Fok f) → Cok (l.foldl stepC c)
  | [], c, h, _ => h
  | f :: l, c, h, hl => fold_ok l _ (step_ok h (hl f (by simp))) (fun g hg => hl g (by simp [hg]))
theorem fold_snoc {l : List Fel} {j : Nat} {f : Fel} (h : l[j]? = some f) : (l.take (j + 1)).foldl stepC noCmd = stepC ((l.take j).foldl stepC noCmd) f := by
  rw [List.take_add_one, h, List.foldl_append]; rfl

theorem flat_bytes {l : List Fel} (h : ∀ f ∈ l, Fok f) : ∀ c ∈ Tl.flat l, c < 256 := by
  intro c hc
  unfold Tl.flat at hc
  rw [List.mem_flatten] at hc
  obtain ⟨x, hx, hcx⟩ := hc
  obtain ⟨f, hf, rfl⟩ := List.mem_map.1 hx
  have hw := (h f hf).1
  have hl := (h f hf).2.2.2.2.2
  unfold Tl.one at hcx
  rcases List.mem_append.1 hcx with h1 | h1
  · exact Tg.tput_byte _ _ c h1
  · split at h1
    · exact Vi.put_byte _ hw.1 c h1
    · rcases List.mem_append.1 h1 with h2 | h2
      · exact Vi.put_byte _ (by omega) c h2
      · exact hw.2 c h2
/-- What is laid down is bytes. -/
theorem putC_byte {c : Cmd} {rest : List Fel} {v : Int} (hc : Cok c) (hr : ∀ f ∈ rest, Fok f) : ∀ b ∈ (putC c rest v).1, b < 256 := by
  unfold putC
  split
  · simp
  split
  · simp
  split
  · simp
  rename_i h1 _
  unfold Tl.putRow
  split
  · simp
  · have hp : Puts c := by
      cases hf : Cm.foreignC c v with
      | true => exact foreign_puts hf
      | false =>
        by_cases hm : Cm.mayC c v = 0
        · exact may_puts hm
        · exact absurd ⟨hf, hm⟩ h1
    exact flat_bytes fun f hf => (List.mem_append.1 hf).elim (fields_ok hp hc v f) (hr f)

theorem grown_cell (w : World) (g i : Nat) (v : Value) : w.grownBy (w.setCell ⟨g, i, none⟩ v) (some g) :=
  ⟨rfl, rfl, rfl, by simp [World.setCell], fun k _ hk => Below.heap_setCell w ⟨g, i, none⟩ v k (by simpa using hk)⟩
/-- A command that is handed back in a cell, beside two others. -/
theorem results_cell3 {P : Program} {fn : Func} {p t u : Tmp} {ty : TypeId} (h : fn.results = #[.cell p ty, .tmp t, .tmp u]) (tmps : Array Value) (w : World) (g : Nat) (tt : TypeId) (cs : Array Value) (fr : Nat × Nat) (d : TypeDesc)
    (hp : tmps.getD p undef = .pointer (some ⟨g, 0, none⟩)) (hg : w.heap[g]? = some (.cells cs tt fr)) (hu : P.underlying ty = some d) (hd : (match d with | .struct _ | .array _ _ => true | _ => false) = true) (hi : (P.info? ty).map (·.size) = some cs.size) :
    (results fn tmps).run P w = .ok (.tuple #[.agg cs, tmps.getD t undef, tmps.getD u undef]) w := by
  have hp' : tmps[p]?.getD undef = .pointer (some ⟨g, 0, none⟩) := by simpa using hp
  simp [results, h, hp', asAddr, run_loadVar_row w g tt ty cs fr d hg hu hd hi]

/-- A block of eight cells that is written whole. -/
theorem blk_set8 {w : World} {g : Nat} {t : TypeId} {c0 c1 c2 c3 c4 c5 c6 c7 : Value} (h : Blk w g t #[c0, c1, c2, c3, c4, c5, c6, c7]) (a0 a1 a2 a3 a4 a5 a6 a7 : Value) :
    Blk ((((((((w.setCell ⟨g, 0, none⟩ a0).setCell ⟨g, 1, none⟩ a1).setCell ⟨g, 2, none⟩ a2).setCell ⟨g, 3, none⟩ a3).setCell ⟨g, 4, none⟩ a4).setCell ⟨g, 5, none⟩ a5).setCell ⟨g, 6, none⟩ a6).setCell ⟨g, 7, none⟩ a7) g t #[a0, a1, a2, a3, a4, a5, a6, a7] ∧
    w.grownBy ((((((((w.setCell ⟨g, 0, none⟩ a0).setCell ⟨g, 1, none⟩ a1).setCell ⟨g, 2, none⟩ a2).setCell ⟨g, 3, none⟩ a3).setCell ⟨g, 4, none⟩ a4).setCell ⟨g, 5, none⟩ a5).setCell ⟨g, 6, none⟩ a6).setCell ⟨g, 7, none⟩ a7) (some g) := by
  refine ⟨?_, ?_⟩
  · have h1 := ((((((((h.put 0 a0).put 1 a1).put 2 a2).put 3 a3).put 4 a4).put 5 a5).put 6 a6).put 7 a7)
    simpa using h1
  · exact (((((((grown_cell _ _ _ _).trans (grown_cell _ _ _ _)).trans (grown_cell _ _ _ _)).trans (grown_cell _ _ _ _)).trans (grown_cell _ _ _ _)).trans (grown_cell _ _ _ _)).trans (grown_cell _ _ _ _)).trans (grown_cell _ _ _ _)

/-- Numbers in an array, the others in a command's cells. -/
def ncells (c : Cmd) : Array Value := #[.int .i64 0, .int .i64 c.kind, .int .i64 c.client, .int .i64 c.seq, .int .i64 c.set, .int .i64 c.id, .int .i64 c.n]
def ccells (c : Cmd) (s : Option Addr × Nat) : Array Value := #[.int .i64 0, .int .i64 0, .int .i64 0, .int .i64 0, .int .i64 0, .int .i64 0, .slice s.1 c.chunks.length s.2, .string (strOf c.text)]
theorem ncells_facts {w : World} {g : Nat} {t : TypeId} {c : Cmd} (h : Blk w g t (ncells c)) : w.cell? ⟨g, 0, none⟩ = some (.int .i64 0) ∧ w.cell? ⟨g, 1, none⟩ = some (.int .i64 c.kind) ∧ w.cell? ⟨g, 2, none⟩ = some (.int .i64 c.client) ∧ w.cell? ⟨g, 3, none⟩ = some (.int .i64 c.seq) ∧
    w.cell? ⟨g, 4, none⟩ = some (.int .i64 c.set) ∧ w.cell? ⟨g, 5, none⟩ = some (.int .i64 c.id) ∧ w.cell? ⟨g, 6, none⟩ = some (.int .i64 c.n) := ⟨h.cell 0, h.cell 1, h.cell 2, h.cell 3, h.cell 4, h.cell 5, h.cell 6⟩
theorem nfrozen_facts {w : World} {g : Nat} {t : TypeId} {cs : Array Value} (h : Blk w g t cs) : w.frozen? ⟨g, 0, none⟩ = false ∧ w.frozen? ⟨g, 1, none⟩ = false ∧ w.frozen? ⟨g, 2, none⟩ = false ∧ w.frozen? ⟨g, 3, none⟩ = false ∧ w.frozen? ⟨g, 4, none⟩ = false ∧ w.frozen? ⟨g, 5, none⟩ = false ∧ w.frozen? ⟨g, 6, none⟩ = false :=
  ⟨h.frozen 0, h.frozen 1, h.frozen 2, h.frozen 3, h.frozen 4, h.frozen 5, h.frozen 6⟩
theorem cut_if (x : Nat) : (if (1048577 : Int) < (x : Int) then (1048577 : Int) else (x : Int)) = cutN x := by
  unfold cutN
  split
  · rw [Nat.min_eq_right (by omega)]; rfl
  · rw [Nat.min_eq_left (by omega)]
theorem ccells_facts {w : World} {g : Nat} {t : TypeId} {c : Cmd} {s : Option Addr × Nat} (h : Blk w g t (ccells c s)) :
    w.cell? ⟨g, 0, none⟩ = some (.int .i64 0) ∧ w.cell? ⟨g, 1, none⟩ = some (.int .i64 0) ∧ w.cell? ⟨g, 2, none⟩ = some (.int .i64 0) ∧ w.cell? ⟨g, 3, none⟩ = some (.int .i64 0) ∧ w.cell? ⟨g, 4, none⟩ = some (.int .i64 0) ∧ w.cell? ⟨g, 5, none⟩ = some (.int .i64 0) ∧
      w.cell? ⟨g, 6, none⟩ = some (.slice s.1 c.chunks.length s.2) ∧ w.cell? ⟨g, 7, none⟩ = some (.string (strOf c.text)) :=
  ⟨h.cell 0, h.cell 1, h.cell 2, h.cell 3, h.cell 4, h.cell 5, h.cell 6, h.cell 7⟩
structure LS (w4 wr : World) (gn gc : Nat) (tn tc : TypeId) (c : Cmd) (s : Option Addr × Nat) : Prop where
  kn : Blk wr gn tn (ncells c)
  kc : Blk wr gc tc (ccells c s)
  rd : RdC wr wr.heap.size c s
  far : c.chunks.length = 0 ∨ ∀ ad : Addr, s.1 = some ad → ad.block ≠ gn ∧ ad.block ≠ gc ∧ w4.heap.size ≤ ad.block
  ne : gn ≠ gc
  low : w4.heap.size ≤ gn ∧ w4.heap.size ≤ gc
  below : Below w4.heap.size w4 wr
theorem LS.mono {w4 wr w' : World} {gn gc : Nat} {tn tc : TypeId} {c : Cmd} {s : Option Addr × Nat} (h : LS w4 wr gn gc tn tc c s) (hb : Below wr.heap.size wr w') : LS w4 w' gn gc tn tc c s :=
  ⟨h.kn.below hb h.kn.lt, h.kc.below hb h.kc.lt, (h.rd.below hb).more hb.size, h.far, h.ne, h.low, h.below.trans (hb.mono h.below.size)⟩
theorem LS.num {w4 wr : World} {gn gc : Nat} {tn tc : TypeId} {c c' : Cmd} {s : Option Addr × Nat} (h : LS w4 wr gn gc tn tc c s) (k : Nat) (x : Value) (h1 : c'.chunks = c.chunks) (h2 : c'.text = c.text) (h3 : (ncells c).setIfInBounds k x = ncells c') : LS w4 (wr.setCell ⟨gn, k, none⟩ x) gn gc tn tc c' s := by
  refine ⟨by rw [← h3]; exact h.kn.put k x, ?_, ?_, by rw [h1]; exact h.far, h.ne, h.low, h.below.setCell h.low.1 _⟩
  · have := h.kc.far (p := ⟨gn, k, none⟩) (Ne.symm h.ne) x
    unfold ccells at *
    rw [h1, h2]
    exact this
  · have hg := grown_cell wr gn k x
    unfold RdC
    rw [h1]
    exact ⟨(h.rd.1.grown (Nat.le_refl _) hg (h.far.imp id fun hh ad had => by simp; exact (hh ad had).1)).more hg.size, h.rd.2⟩
theorem LS.txt {w4 wr : World} {gn gc : Nat} {tn tc : TypeId} {c : Cmd} {s : Option Addr × Nat} (h : LS w4 wr gn gc tn tc c s) (t : List Nat) : LS w4 (wr.setCell ⟨gc, 7, none⟩ (.string (strOf t))) gn gc tn tc { c with text := t } s := by
  refine ⟨h.kn.far (p := ⟨gc, 7, none⟩) h.ne _, ?_, ?_, h.far, h.ne, h.low, h.below.setCell h.low.2 _⟩
  · have := h.kc.put 7 (.string (strOf t))
    simpa [ccells] using this
  · have hg := grown_cell wr gc 7 (.string (strOf t))
    exact ⟨(h.rd.1.grown (Nat.le_refl _) hg (h.far.imp id fun hh ad had => by simp; exact (hh ad had).2.1)).more hg.size, h.rd.2⟩
theorem LS.chu {w4 wr : World} {gn gc : Nat} {tn tc : TypeId} {c : Cmd} {s : Option Addr × Nat} (h : LS w4 wr gn gc tn tc c s) (l : List Int) (A : Option Addr) (n cap : Nat) (hl : l.length = n) (hr : Rd wr wr.heap.size 1 A n (ivs l)) (hc : n ≤ cap) (hm : cap ≤ 9223372036854775807) (hf : ∀ ad : Addr, A = some ad → ad.block ≠ gn ∧ ad.block ≠ gc ∧ w4.heap.size ≤ ad.block) :
    LS w4 (wr.setCell ⟨gc, 6, none⟩ (.slice A n cap)) gn gc tn tc { c with chunks := l } (A, cap) := by
  subst hl
  refine ⟨h.kn.far (p := ⟨gc, 6, none⟩) h.ne _, ?_, ?_, .inr hf, h.ne, h.low, h.below.setCell h.low.2 _⟩
  · have := h.kc.put 6 (.slice A l.length cap)
    simpa [ccells] using this
  · have hg := grown_cell wr gc 6 (.slice A l.length cap)
    exact ⟨(hr.grown (Nat.le_refl _) hg (.inr fun ad had => by simp; exact (hf ad had).2.1)).more hg.size, hc, hm⟩
theorem LS.alloc {w4 wr : World} {gn gc : Nat} {tn tc : TypeId} {c : Cmd} {s : Option Addr × Nat} (h : LS w4 wr gn gc tn tc c s) (o : Obj) : LS w4 (wr.alloc o) gn gc tn tc c s := h.mono ((Below.refl _ _).alloc (Nat.le_refl _) _)
def zeros : Array Value := #[.int .i64 0, .int .i64 0, .int .i64 0, .int .i64 0, .int .i64 0, .int .i64 0, .slice none 0 0, .string (strOf [])]
/-- Bytes and fields are never a cell of noughts of a command. -/
theorem zeros_no {w : World} {g : Nat} {t : TypeId} (h : Blk w g t zeros) {a : Addr} (ha : a.block = g) {k : IntKind} {x : Int} (hk : k ≠ .i64) : w.cell? a ≠ some (.int k x) := by
  intro hv
  unfold World.cell? at hv
  rw [ha, show w.heap[g]? = some (.cells zeros t (0, 0)) from h] at hv
  simp only [] at hv
  split at hv
  · cases hv
  · have hm := Array.mem_of_getElem? hv
    simp [zeros] at hm
    exact hk hm.1
theorem rd_no_zeros {w : World} {g n B : Nat} {t : TypeId} {A : Option Addr} {bs : List Nat} (hr : Rd w B 1 A n (bvs bs)) (h : Blk w g t zeros) : n = 0 ∨ ∀ ad : Addr, A = some ad → some ad.block ≠ some g := by
  obtain ⟨hl, h0 | ⟨ad, rfl, _, hc⟩⟩ := hr
  · exact .inl h0
  · by_cases hn : n = 0
    · exact .inl hn
    · right
      intro ad' hA e
      injection hA with hA
      subst hA
      injection e with e
      rw [bvs_len] at hl
      have hpos : 0 < bs.length := by omega
      have h1 := hc 0 (bv (bs[0]'hpos)) (by unfold bvs; rw [List.getElem?_map, List.getElem?_eq_getElem hpos]; rfl)
      exact zeros_no h (by rw [add_block]; exact e) (by decide) h1
theorem rdf_no_zeros {w w' : World} {g n B : Nat} {t : TypeId} {A : Option Addr} {l : List Fel} {S : List (Option Addr × Nat)} (hr : RdF w B A n l S) (h : Blk w g t zeros) (hB : B ≤ w.heap.size) (hg : w.grownBy w' (some g)) : RdF w' B A n l S := by
  refine ⟨hr.1, hr.2.1, hr.2.2.1.grown hB hg ?_, fun k f s hf hs => ?_⟩
  · by_cases hn : n = 0
    · exact .inl hn
    · right
      rintro ad rfl e
      injection e with e
      obtain ⟨ad', f, s, hA, _, _, _, _, _, h2, _⟩ := hr.get (show 0 < n by omega)
      injection hA with hA
      subst hA
      exact zeros_no h (by rw [add_block]; exact e) (by decide) h2
  · obtain ⟨r1, r2, r3⟩ := hr.2.2.2 k f s hf hs
    exact ⟨r1.grown hB hg (rd_no_zeros r1 h), r2, r3⟩
theorem zeros_no1 {w : World} {g : Nat} {t : TypeId} (h : Blk w g t zeros) {a : Addr} (ha : a.block = g) {x : Int} (hx : x ≠ 0) : w.cell? a ≠ some (.int .i64 x) := by
  intro hv
  unfold World.cell? at hv
  rw [ha, show w.heap[g]? = some (.cells zeros t (0, 0)) from h] at hv
  simp only [] at hv
  split at hv
  · cases hv
  · have hm := Array.mem_of_getElem? hv
    simp [zeros] at hm
    exact hx hm
theorem rdc_no_zeros {w w' : World} {g B : Nat} {t : TypeId} {c : Cmd} {s : Option Addr × Nat} (hr : RdC w B c s) (h : Blk w g t zeros) (hB : B ≤ w.heap.size) (hg : w.grownBy w' (some g)) (hc : ∀ x ∈ c.chunks, 1 ≤ x) : RdC w' B c s := by
  refine ⟨hr.1.grown hB hg ?_, hr.2⟩
  obtain ⟨⟨hl, h0 | ⟨ad, hA, _, hcell⟩⟩, _⟩ := hr
  · exact .inl h0
  · by_cases hn : c.chunks.length = 0
    · exact .inl hn
    · right
      intro ad' hA' e
      rw [hA] at hA'
      injection hA' with hA'
      subst hA'
      injection e with e
      have hpos : 0 < c.chunks.length := by omega
      have h1 := hcell 0 (iv (c.chunks[0]'hpos)) (by unfold ivs; rw [List.getElem?_map, List.getElem?_eq_getElem hpos]; rfl)
      have h2 := hc _ (List.getElem_mem hpos)
      exact zeros_no1 h (by rw [add_block]; exact e) (by omega) h1
theorem unchunk_pos (b : List Nat) : ∀ x ∈ (unchunk b).1, 1 ≤ x := by
  unfold unchunk
  split
  · rename_i h
    exact fun x hx => ((row_mem h).1 x hx).1
  · simp
theorem fold_pos : ∀ (l : List Fel) (c : Cmd), (∀ x ∈ c.chunks, 1 ≤ x) → ∀ x ∈ (l.foldl stepC c).chunks, 1 ≤ x
  | [], c, h => h
  | f :: l, c, h => fold_pos l (stepC c f) (by
    unfold stepC
    repeat' split
    all_goals first | exact h | exact unchunk_pos f.b)
theorem takeC_pos (bs : List Nat) (v : Int) : ∀ x ∈ (takeC bs v).1.chunks, 1 ≤ x := by
  unfold takeC
  repeat' split
  all_goals first | (simp [noCmd]; done) | exact fold_pos _ _ (by simp [noCmd])
end Go.Proofs.Ytkagonijkalicaa
