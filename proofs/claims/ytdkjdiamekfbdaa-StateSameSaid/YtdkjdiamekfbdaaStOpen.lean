/-
  A catalogue that came in as an argument.
-/
import Derived.Test.YtdkjdiamekfbdaaStMem
import Derived.Test.YtdkjdiamekfbdaaRfOpen
namespace Go.Proofs.Ytdkjdiamekfbdaa
open Go.ChangeShapes Go.WideShapes Go.ChangeAt Go.RowKit
open Rf (Snp)
open St (Ses Opn Sta)

theorem array7 {α : Type} {cs : Array α} (h : cs.size = 7) : ∃ c0 c1 c2 c3 c4 c5 c6, cs = #[c0, c1, c2, c3, c4, c5, c6] := by
  obtain ⟨l⟩ := cs
  match l, h with
  | [c0, c1, c2, c3, c4, c5, c6], _ => exact ⟨c0, c1, c2, c3, c4, c5, c6, rfl⟩
theorem wf_i {z : Int} (hz : (Lit.int .i64 z).wf = true) : I64 z := by simpa [I64, Lit.wf, IntKind.min, IntKind.max, IntKind.signed, IntKind.bits] using hz
section
variable {H : Type} {enc : TypeId × Value → H} {P : Program}
/-- A row of elements, none of whose cells is an address, that came in. -/
theorem open_rows_in {α : Type} {cf : α → List Value} {sz : Nat} {good : α → Prop} {t e : TypeId} {w : World} {v : Value} {fuel : Nat} {xx : DataW H × List MemPlace} (hcf : ∀ a, (cf a).length = sz) (hsz : 0 < sz) (ht : P.underlying t = some (.slice e)) (hC : P.cellsOf e = sz)
    (hel : ∀ m cs x, cs.length = sz → DataW.trod enc P w 0 (fun _ => true) true m e cs = some x → ∃ a, cs = cf a ∧ good a)
    (hf : DataW.trod enc P w 0 (fun _ => true) true fuel t [v] = some xx) :
    ∃ (A : Option Addr) (n c : Nat) (l : List α), v = .slice A n c ∧ n ≤ c ∧ c ≤ 9223372036854775807 ∧ RdR cf sz w w.heap.size A n l ∧ ∀ a ∈ l, good a := by
  rcases DataW.trod_slice ht hf with ⟨hcs, _⟩ | ⟨ad, n, cc, elems, rest, m, _, hcs, _, _, hle, hmax, hl0, hget, _⟩
  · simp at hcs
    subst hcs
    exact ⟨none, 0, 0, [], rfl, Nat.le_refl _, by omega, RdR.nil _ _ _, by simp⟩
  · simp at hcs
    subst hcs
    have key : ∀ i, i < n → ∃ (a : α) (_ : Option Addr × Nat), (∀ j, j < sz → w.cell? (ad.add (i * sz + j)) = (cf a)[j]?) ∧ good a := by
      intro i hi
      have hg := hget i hi
      have hi' : i < elems.length := by omega
      rw [hC, List.getElem?_eq_getElem hi', Option.bind_eq_some_iff] at hg
      obtain ⟨cs, hcs, htr⟩ := hg
      obtain ⟨_, hln, hcell⟩ := World.cells?_some hcs
      obtain ⟨a, rfl, hga⟩ := hel m cs _ hln htr
      refine ⟨a, (none, 0), fun j hj => ?_, hga⟩
      have hc2 := hcell j hj
      rw [add_twice] at hc2
      exact hc2
    obtain ⟨l, S, hl, hS, hq⟩ := lists_of n key
    have hq' : ∀ (k : Nat) (a : α), l[k]? = some a → (∀ j, j < sz → w.cell? (ad.add (k * sz + j)) = (cf a)[j]?) ∧ good a := by
      intro k a ha
      obtain ⟨s, hs⟩ : ∃ s, S[k]? = some s := ⟨S[k]'(by have := (List.getElem?_eq_some_iff.1 ha).1; omega), by simp⟩
      exact hq k a s ha hs
    refine ⟨some ad, n, cc, l, rfl, hle, by unfold maxLen at hmax; omega, ⟨hl, ⟨by rw [rowc_len hcf l, hl], ?_⟩⟩, fun a ha => ?_⟩
    · by_cases hn : n = 0
      · exact .inl hn
      · refine .inr ⟨ad, rfl, ?_, ?_⟩
        · obtain ⟨a, ha⟩ : ∃ a, l[0]? = some a := ⟨l[0]'(by omega), by simp⟩
          have := (hq' 0 a ha).1 0 hsz
          have h0 : 0 < (cf a).length := by rw [hcf]; exact hsz
          rw [List.getElem?_eq_getElem h0] at this
          have h2 := World.block_lt_of_cell? _ _ this
          rwa [add_block] at h2
        · intro j u hu
          have hj : j < n * sz := by
            have := (List.getElem?_eq_some_iff.1 hu).1
            rw [rowc_len hcf l, hl] at this
            exact this
          have hd : j / sz < n := Nat.div_lt_of_lt_mul (by rw [Nat.mul_comm]; exact hj)
          obtain ⟨a, ha⟩ : ∃ a, l[j / sz]? = some a := ⟨l[j / sz]'(by omega), by simp⟩
          have hm := Nat.mod_lt j hsz
          have h1 := rowc_get hcf l (j / sz) (j % sz) a ha hm
          have h2 := (hq' _ a ha).1 (j % sz) hm
          have ej : j / sz * sz + j % sz = j := by rw [Nat.mul_comm]; exact Nat.div_add_mod j sz
          rw [ej] at h1 h2
          rw [h2, ← h1, hu]
    · obtain ⟨k, hk, rfl⟩ := List.getElem_of_mem ha
      exact (hq' k _ (by simp)).2
/-- A client's cells. -/
theorem open_ses {e _er : TypeId} {f0 f1 f2 r0 r1 : Field} {w : World} (hs : P.underlying e = some (.struct #[f0, f1, f2])) (hr : P.underlying f2.type = some (.struct #[r0, r1]))
    (o : f0.offset = 0 ∧ f1.offset = 1 ∧ f2.offset = 2 ∧ r0.offset = 0 ∧ r1.offset = 1) (c : P.cellsOf f0.type = 1 ∧ P.cellsOf f1.type = 1 ∧ P.cellsOf f2.type = 2 ∧ P.cellsOf r0.type = 1 ∧ P.cellsOf r1.type = 1)
    (h0 : P.underlying f0.type = some (.int .i64)) (h1 : P.underlying f1.type = some (.int .i64)) (h2 : P.underlying r0.type = some (.int .i64)) (h3 : P.underlying r1.type = some (.int .i64)) :
    ∀ m cs x, cs.length = 4 → DataW.trod enc P w 0 (fun _ => true) true m e cs = some x → ∃ a : Ses, cs = secells a ∧ (I64 a.client ∧ I64 a.seq ∧ I64 a.code ∧ I64 a.n) := by
  intro m cs x hl htr
  obtain ⟨xs, m', _, _, _, hxl, hx⟩ := DataW.trod_struct hs htr
  match cs, hl with
  | [u0, u1, u2, u3], _ =>
    match xs, hxl with
    | [y0, y1, y2], _ =>
      have g0 := hx 0 f0 rfl
      have g1 := hx 1 f1 rfl
      have g2 := hx 2 f2 rfl
      rw [o.1, c.1] at g0
      rw [o.2.1, c.2.1] at g1
      rw [o.2.2.1, c.2.2.1] at g2
      simp at g0 g1 g2
      obtain ⟨z0, q0, _, w0⟩ := DataW.trod_int h0 g0
      obtain ⟨z1, q1, _, w1⟩ := DataW.trod_int h1 g1
      obtain ⟨ys, m2, _, _, _, hyl, hy⟩ := DataW.trod_struct hr g2
      match ys, hyl with
      | [v0, v1], _ =>
        have k0 := hy 0 r0 rfl
        have k1 := hy 1 r1 rfl
        rw [o.2.2.2.1, c.2.2.2.1] at k0
        rw [o.2.2.2.2, c.2.2.2.2] at k1
        simp at k0 k1
        obtain ⟨z2, q2, _, w2⟩ := DataW.trod_int h2 k0
        obtain ⟨z3, q3, _, w3⟩ := DataW.trod_int h3 k1
        simp at q0 q1 q2 q3
        subst q0 q1 q2 q3
        exact ⟨⟨z0, z1, z2, z3⟩, rfl, wf_i w0, wf_i w1, wf_i w2, wf_i w3⟩
/-- An open backup's cells. -/
theorem open_opn {e : TypeId} {f0 f1 : Field} {w : World} (hs : P.underlying e = some (.struct #[f0, f1]))
    (o : f0.offset = 0 ∧ f1.offset = 1) (c : P.cellsOf f0.type = 1 ∧ P.cellsOf f1.type = 1) (h0 : P.underlying f0.type = some (.int .i64)) (h1 : P.underlying f1.type = some (.int .i64)) :
    ∀ m cs x, cs.length = 2 → DataW.trod enc P w 0 (fun _ => true) true m e cs = some x → ∃ a : Opn, cs = opcells a ∧ (I64 a.set ∧ I64 a.client) := by
  intro m cs x hl htr
  obtain ⟨xs, m', _, _, _, hxl, hx⟩ := DataW.trod_struct hs htr
  match cs, hl with
  | [u0, u1], _ =>
    match xs, hxl with
    | [y0, y1], _ =>
      have g0 := hx 0 f0 rfl
      have g1 := hx 1 f1 rfl
      rw [o.1, c.1] at g0
      rw [o.2, c.2] at g1
      simp at g0 g1
      obtain ⟨z0, q0, _, w0⟩ := DataW.trod_int h0 g0
      obtain ⟨z1, q1, _, w1⟩ := DataW.trod_int h1 g1
      simp at q0 q1
      subst q0 q1
      exact ⟨⟨z0, z1⟩, rfl, wf_i w0, wf_i w1⟩
theorem open_seven {r : Reach} {b0 : Nat} {t : TypeId} {f0 f1 f2 f3 f4 f5 f6 : Field} {w : World} {v : Value} {d : DataW H} {ps : List MemPlace} (hs : P.underlying t = some (.struct #[f0, f1, f2, f3, f4, f5, f6])) (hone : Deep.oneCellFields P #[f0, f1, f2, f3, f4, f5, f6] = true) (hC : P.cellsOf t = 7)
    (hval : Value.okWide P w r b0 t v) (h : DataW.Trod enc P w 0 (fun _ => true) true t v d ps) :
    ∃ (u0 u1 u2 u3 u4 u5 u6 : Value) (y0 y1 y2 y3 y4 y5 y6 : DataW H × List MemPlace) (n : Nat), v = .agg #[u0, u1, u2, u3, u4, u5, u6] ∧ DataW.trod enc P w 0 (fun _ => true) true n f0.type [u0] = some y0 ∧ DataW.trod enc P w 0 (fun _ => true) true n f1.type [u1] = some y1 ∧ DataW.trod enc P w 0 (fun _ => true) true n f2.type [u2] = some y2 ∧
      DataW.trod enc P w 0 (fun _ => true) true n f3.type [u3] = some y3 ∧ DataW.trod enc P w 0 (fun _ => true) true n f4.type [u4] = some y4 ∧ DataW.trod enc P w 0 (fun _ => true) true n f5.type [u5] = some y5 ∧ DataW.trod enc P w 0 (fun _ => true) true n f6.type [u6] = some y6 := by
  obtain ⟨cs, rfl, hsz⟩ := okWide_struct hs hval
  obtain ⟨u0, u1, u2, u3, u4, u5, u6, rfl⟩ := array7 (hsz.trans hC)
  obtain ⟨fuel, hf⟩ := h
  obtain ⟨xs, n, _, _, _, hlen, hx⟩ := DataW.trod_struct hs hf
  have ho := Deep.hone_of hone
  have g0 := hx 0 f0 rfl
  have g1 := hx 1 f1 rfl
  have g2 := hx 2 f2 rfl
  have g3 := hx 3 f3 rfl
  have g4 := hx 4 f4 rfl
  have g5 := hx 5 f5 rfl
  have g6 := hx 6 f6 rfl
  rw [(ho 0 f0 rfl).1, (ho 0 f0 rfl).2] at g0
  rw [(ho 1 f1 rfl).1, (ho 1 f1 rfl).2] at g1
  rw [(ho 2 f2 rfl).1, (ho 2 f2 rfl).2] at g2
  rw [(ho 3 f3 rfl).1, (ho 3 f3 rfl).2] at g3
  rw [(ho 4 f4 rfl).1, (ho 4 f4 rfl).2] at g4
  rw [(ho 5 f5 rfl).1, (ho 5 f5 rfl).2] at g5
  rw [(ho 6 f6 rfl).1, (ho 6 f6 rfl).2] at g6
  simp only [Value.cells, List.drop_zero, List.drop_succ_cons, List.take_succ_cons, List.take_zero] at g0 g1 g2 g3 g4 g5 g6
  rw [List.getElem?_eq_getElem (by rw [hlen]; simp)] at g0 g1 g2 g3 g4 g5 g6
  exact ⟨u0, u1, u2, u3, u4, u5, u6, _, _, _, _, _, _, _, n, rfl, g0, g1, g2, g3, g4, g5, g6⟩
end
set_option maxRecDepth 100000 in
/-- A catalogue by value. -/
theorem open_st {H : Type} {enc : TypeId × Value → H} {r : Reach} {b0 : Nat} {w : World} {v : Value} {d : DataW H} {ps : List MemPlace}
    (hval : Value.okWide Try.prog w r b0 26 v) (h : DataW.Trod enc Try.prog w 0 (fun _ => true) true 26 v d ps) :
    ∃ (s : Sta) (p : Pls), v = stagg s p ∧ RdT w w.heap.size s p ∧ Tok s := by
  obtain ⟨u0, u1, u2, u3, u4, u5, u6, y0, y1, y2, y3, y4, y5, y6, n, rfl, g0, g1, g2, g3, g4, g5, g6⟩ := open_seven Try.underlying26 (by kernel_rfl) (by kernel_rfl) hval h
  obtain ⟨z0, q0, _, w0⟩ := DataW.trod_int Try.underlying3 g0
  obtain ⟨z1, q1, _, w1⟩ := DataW.trod_int Try.underlying3 g1
  obtain ⟨z2, q2, _, w2⟩ := DataW.trod_int Try.underlying3 g2
  obtain ⟨z3, q3, _, w3⟩ := DataW.trod_int Try.underlying3 g3
  simp only [List.cons.injEq, and_true] at q0 q1 q2 q3
  subst q0 q1 q2 q3
  obtain ⟨A1, n1, k1, l1, rfl, a1, b1, e1, t1⟩ := open_rows_in se_len (by decide) Try.underlying22 (by kernel_rfl) (open_ses (_er := 40) Try.underlying42 Try.underlying40 ⟨rfl, rfl, rfl, rfl, rfl⟩ ⟨by kernel_rfl, by kernel_rfl, by kernel_rfl, by kernel_rfl, by kernel_rfl⟩ Try.underlying3 Try.underlying3 Try.underlying31 Try.underlying3) g4
  obtain ⟨A2, n2, k2, l2, rfl, a2, b2, e2, t2⟩ := open_rows_in op_len (by decide) Try.underlying23 (by kernel_rfl) (open_opn Try.underlying44 ⟨rfl, rfl⟩ ⟨by kernel_rfl, by kernel_rfl⟩ Try.underlying3 Try.underlying3) g5
  obtain ⟨A3, n3, k3, l3, S3, rfl, a3, b3, e3, t3⟩ := open_snaps_in Try.underlying24 Try.underlying38 (by kernel_rfl) ⟨rfl, rfl, rfl, rfl, rfl⟩ ⟨by kernel_rfl, by kernel_rfl, by kernel_rfl, by kernel_rfl, by kernel_rfl⟩ Try.underlying3 Try.underlying3 Try.underlying36 Try.underlying3 (by kernel_rfl) Try.underlying4 Try.underlying9 g6
  exact ⟨⟨z0, z1, z2, z3, l1, l2, l3⟩, ⟨A1, n1, k1, A2, n2, k2, A3, n3, k3, S3⟩, rfl, ⟨e1, e2, e3, ⟨a1, b1⟩, ⟨a2, b2⟩, ⟨a3, b3⟩⟩, ⟨wf_i w0, wf_i w1, wf_i w2, wf_i w3, t1, t2, t3⟩⟩
end Go.Proofs.Ytdkjdiamekfbdaa
