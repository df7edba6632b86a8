/-
  The walks of stage 4's laws: their head, and few.
-/
import Derived.Test.YtmcbifdfpaooaaaFoProg
namespace Go.Proofs.Ytmcbifdfpaooaaa
open Go.RowKit
open Fo (Spc specAll specs inv top check)
open Tl (Fel)

set_option maxRecDepth 100000 in
theorem fshown_any (w : World) : Calls Try.prog 8 #[] w fun e w' => e = .returned (.bool true) ∧ Below w.heap.size w w' := by
  have t1 : top 2 1 = 3 := by decide
  have t2 : top 2 3 = 5 := by decide
  have t3 : (specs 3 2).length = 2 := by decide
  have T3 := Lib.hid t3
  have h1 := fun w => top_rec 2 1 w (by decide) (by decide) (by decide) (by decide)
  have h2 := fun w => top_rec 2 3 w (by decide) (by decide) (by decide) (by decide)
  rw [t1] at h1
  rw [t2] at h2
  have H1 := Lib.hid h1
  have H2 := Lib.hid h2
  have H3 := Lib.hid (fun w => specs_rec 3 2 w (by decide) (by decide) (by decide) (by decide))
  clear t1 t2 t3 h1 h2
  go_enter Try.func8, Try.ntmps8
  go_wp2_with fail
  refine (H1.out w).mono ?_
  rintro e w1 ⟨rfl, hb1⟩
  go_wp2_with fail
  refine (H2.out w1).mono ?_
  rintro e w2 ⟨rfl, hb2⟩
  go_wp2_with fail
  refine (H3.out w2).mono ?_
  rintro e w3 ⟨A, n, c, rfl, _, _, hn, _, hb3⟩
  obtain rfl : n = 2 := by rw [← hn, T3.out]
  go_wp2
  go_ret
  exact ⟨rfl, hb1.trans ((hb2.mono hb1.size).trans (hb3.mono (by have := hb1.size; have := hb2.size; omega)))⟩

/-- What 'few' makes of a field. -/
def cut4 (f : Fel) : Fel := { f with b := f.b.take 300 }
def few4 (l : List Fel) : List Fel := (l.take 60).map cut4
theorem few4_len (l : List Fel) : (few4 l).length = min 60 l.length := by simp [few4]
theorem few4_get {l : List Fel} {j : Nat} {f : Fel} (h : l[j]? = some f) (hj : j < 60) : (few4 l)[j]? = some (cut4 f) := by
  unfold few4
  rw [List.getElem?_map, List.getElem?_take, if_pos hj, h]; rfl
/-- What a field that came in holds. -/
def Fin4 (f : Fel) : Prop := f.wf ∧ -9223372036854775808 ≤ f.num ∧ f.num ≤ 9223372036854775807 ∧ -9223372036854775808 ≤ f.wire ∧ f.wire ≤ 9223372036854775807
theorem few4_ok {l : List Fel} (h : ∀ f ∈ l, Fin4 f) : ∀ f ∈ few4 l, Fok f := by
  intro f hf
  unfold few4 at hf
  obtain ⟨g, hg, rfl⟩ := List.mem_map.1 hf
  have hg := h _ (List.mem_of_mem_take hg)
  refine ⟨⟨hg.1.1, fun c hc => hg.1.2 c (List.mem_of_mem_take hc)⟩, hg.2.1, hg.2.2.1, hg.2.2.2.1, hg.2.2.2.2, ?_⟩
  simp only [cut4, List.length_take]
  omega
theorem few4_rd {w w' : World} {A : Option Addr} {n : Nat} {l : List Fel} {S : List (Option Addr × Nat)} (h : RdF w w.heap.size A n l S) (hb : Below w.heap.size w w') (k : Nat) (f : Fel) (s : Option Addr × Nat) (hf : (few4 l)[k]? = some f) (hs : (S.take 60)[k]? = some s) :
    Rd w' w.heap.size 1 s.1 f.b.length (bvs f.b) ∧ f.b.length ≤ s.2 ∧ s.2 ≤ 9223372036854775807 := by
  have hk : k < 60 := by
    have := (List.getElem?_eq_some_iff.1 hs).1
    rw [List.length_take] at this
    omega
  rw [List.getElem?_take, if_pos hk] at hs
  obtain ⟨g, hg⟩ : ∃ g, l[k]? = some g := ⟨l[k]'(by have := (List.getElem?_eq_some_iff.1 hs).1; have := h.1; have := h.2.1; omega), by simp⟩
  rw [few4_get hg hk] at hf
  obtain rfl := Option.some.inj hf
  obtain ⟨h1, h2, h3⟩ := h.2.2.2 k g s hg hs
  unfold cut4
  have hlen : (g.b.take 300).length ≤ g.b.length := by rw [List.length_take]; omega
  refine ⟨?_, by show (g.b.take 300).length ≤ _; omega, h3⟩
  have h4 := (h1.below hb).bytes_to hlen
  have e : g.b.take (g.b.take 300).length = g.b.take 300 := by rw [List.length_take, List.take_eq_take_iff]; omega
  rw [e] at h4
  exact h4
theorem few4_step {w wr w2 : World} {A : Option Addr} {n m j : Nat} {l : List Fel} {S : List (Option Addr × Nat)} {f : Fel} {s : Option Addr × Nat} {o v2 : Value} {cs : List Value} {e : TypeId} {b1 b2 : Obj} (hm : (few4 l).length = m) (h : RdF w w.heap.size A n l S)
    (hlt : j < m) (hj : j < 60) (hf : l[j]? = some f) (hs : S[j]? = some s) (hcs : fcells (cut4 f) s = cs) (hb : Below w.heap.size w wr) (hown : wr.ownsRow w.heap.size e 4 o j (rcells ((few4 l).take j) (S.take j)))
    (hown2 : w2.ownsRow w.heap.size e 4 v2 (j + 1) (rcells ((few4 l).take j) (S.take j) ++ cs)) (hg : ((wr.alloc b1).alloc b2).grownBy w2 o.ownBlock) :
    w2.ownsRow w.heap.size e 4 v2 (j + 1) (rcells ((few4 l).take (j + 1)) (S.take (j + 1))) ∧ Below w.heap.size w w2 := by
  have hS := (List.getElem?_eq_some_iff.1 hs).1
  refine ⟨?_, ((hb.alloc hb.size _).alloc (by simp; have := hb.size; omega) _).grown hg (by simp; have := hb.size; omega) fun k hk => (hown.lt k hk).1⟩
  rw [List.take_add_one, List.take_add_one, few4_get hf hj, hs, rcells_app _ _ _ _ (by rw [List.length_take, List.length_take, hm]; omega)]
  simp only [Option.toList_some]
  rw [rcells_one, hcs]
  exact hown2

set_option maxHeartbeats 1000000 in
set_option maxRecDepth 100000 in
theorem fewf_any (A : Option Addr) (n c : Nat) (l : List Fel) (S : List (Option Addr × Nat)) (w : World) (h : RdF w w.heap.size A n l S) (hnc : n ≤ c) (hmax : c ≤ 9223372036854775807) :
    Calls Try.prog 15 #[.slice A n c] w fun e w' => ∃ v, e = .returned v ∧ w'.ownsRow w.heap.size 39 4 v (few4 l).length (rcells (few4 l) (S.take 60)) ∧ Below w.heap.size w w' := by
  obtain ⟨i0, hi, hz0, hz1, hz2⟩ := info_parts field_info
  obtain ⟨m, hm⟩ : ∃ m, m = min 60 n := ⟨_, rfl⟩
  have hln := h.1
  have hlen : (few4 l).length = m := by rw [few4_len, h.1, hm]
  have hm' : m ≤ n ∧ m ≤ 60 ∧ (m < 60 → m = n) := by omega
  have HR := Lib.hid h
  have HL := Lib.hid hlen
  have HN := Lib.hid hln
  clear h hm hlen hln
  go_enter Try.func15, Try.ntmps15
  go_wp2
  go_loopw [3, 4] (fun o i wr => ∃ j : Nat, j ≤ m ∧ i = .int .i64 (j : Int) ∧ wr.ownsRow w.heap.size 39 4 o j (rcells ((few4 l).take j) (S.take j)) ∧ Below w.heap.size w wr) (fun _ i _ => m - (intOf i).toNat)
  case atStart => exact ⟨0, by omega, rfl, by simpa [rcells] using World.ownsRow_made w #[] 0 (Nat.le_refl _) (by unfold maxLen; omega) rfl, (Below.refl _ _).alloc (Nat.le_refl _) _⟩
  case round =>
    obtain ⟨j, hj, rfl, hown, hb⟩ := hrel
    have HO := Lib.hid hown
    clear hown
    by_cases hlt : j < m
    · obtain ⟨ad, f, s, rfl, hab, hf, hs, g0, g1, g2, g3, hrd, hs1, hs2⟩ := (HR.out.below hb).spell (show j < n by omega)
      have hj60 : j < 60 := by omega
      have hsz := hb.size
      obtain ⟨L, hL⟩ : ∃ L, L = (cut4 f).b.length := ⟨_, rfl⟩
      have HC := Lib.hid (show fcells (cut4 f) s = [.int .i64 f.num, .int .i64 f.wire, .int .u64 (f.n : Int), .slice s.1 L s.2] by rw [hL]; rfl)
      have hL2 : L = min 300 f.b.length := by rw [hL]; simp [cut4, List.length_take]
      clear hL
      by_cases hc1 : 300 < f.b.length
      · obtain rfl : L = 300 := by omega
        clear hL2
        go_wp2_with (at_builtin; refine wpList_append_own _ rfl (.tmp 29) (.tmp 31) 22 rfl w.heap.size 39 i0 (.agg #[.int .i64 0, .int .i64 0, .int .u64 0, .slice none 0 0]) 4 48 Try.underlying22 hi hz0 hz1 hz2 rfl (by decide) _ j _ rfl ((HO.out.alloc _).alloc _) ⟨wr.heap.size + 1, 0, none⟩ 1 1 [.int .i64 f.num, .int .i64 f.wire, .int .u64 (f.n : Int), .slice s.1 (300) s.2] rfl rfl (by have h0 := cells4_new (wr.alloc (.cells #[.int .i64 f.num, .int .i64 f.wire, .int .u64 (f.n : Int), .slice s.1 (300) s.2] 39)) (.int .i64 f.num) (.int .i64 f.wire) (.int .u64 (f.n : Int)) (.slice s.1 (300) s.2) 39; simpa using h0) (few_one _ _ _ _ _ _) (by unfold maxLen; omega) (by omega) (by simp; omega) ?_)
        intro v2 w2 hown2 hg2 _
        have R := few4_step (f := f) (s := s) HL.out HR.out hlt hj60 hf hs HC.out hb HO.out hown2 hg2
        clear hown2 hg2
        go_wp2
        go_roundw
        case rel => exact ⟨j + 1, by omega, by go_num, R.1, R.2⟩
        case measure => simp [intOf]; omega

      · obtain rfl : L = f.b.length := by omega
        clear hL2
        go_wp2_with (at_builtin; refine wpList_append_own _ rfl (.tmp 29) (.tmp 31) 22 rfl w.heap.size 39 i0 (.agg #[.int .i64 0, .int .i64 0, .int .u64 0, .slice none 0 0]) 4 48 Try.underlying22 hi hz0 hz1 hz2 rfl (by decide) _ j _ rfl ((HO.out.alloc _).alloc _) ⟨wr.heap.size + 1, 0, none⟩ 1 1 [.int .i64 f.num, .int .i64 f.wire, .int .u64 (f.n : Int), .slice s.1 (f.b.length) s.2] rfl rfl (by have h0 := cells4_new (wr.alloc (.cells #[.int .i64 f.num, .int .i64 f.wire, .int .u64 (f.n : Int), .slice s.1 (f.b.length) s.2] 39)) (.int .i64 f.num) (.int .i64 f.wire) (.int .u64 (f.n : Int)) (.slice s.1 (f.b.length) s.2) 39; simpa using h0) (few_one _ _ _ _ _ _) (by unfold maxLen; omega) (by omega) (by simp; omega) ?_)
        intro v2 w2 hown2 hg2 _
        have R := few4_step (f := f) (s := s) HL.out HR.out hlt hj60 hf hs HC.out hb HO.out hown2 hg2
        clear hown2 hg2
        go_wp2
        go_roundw
        case rel => exact ⟨j + 1, by omega, by go_num, R.1, R.2⟩
        case measure => simp [intOf]; omega

    · obtain rfl : j = m := by omega
      have hmn : ¬ (j < n ∧ j < 60) := by omega
      have hfin : (few4 l).take j = few4 l ∧ S.take j = S.take 60 := by
        refine ⟨List.take_of_length_le (by have := HL.out; omega), ?_⟩
        have hS : S.length = n := HR.out.2.1
        by_cases h60 : j = 60
        · rw [h60]
        · rw [List.take_of_length_le (by omega), List.take_of_length_le (by omega)]
      have hown := HO.out
      rw [hfin.1, hfin.2] at hown
      have HO2 := Lib.hid hown
      clear hfin hown
      go_wp2
      all_goals
        go_ret
        refine ⟨_, rfl, ?_, hb⟩
        rw [HL.out]
        exact HO2.out
end Go.Proofs.Ytmcbifdfpaooaaa
