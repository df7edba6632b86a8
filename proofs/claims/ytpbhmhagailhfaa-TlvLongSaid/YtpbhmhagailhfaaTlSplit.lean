/-
  The walk of the reference's Split: a row of fields, parted.
-/
import Derived.Test.YtpbhmhagailhfaaTlMem
import Derived.Deep.AppendLies
namespace Go.Proofs.Ytpbhmhagailhfaa
open Go.RowKit
open Tl (Fel)

/-- Fields that are some of a row's, each with the place of its bytes. -/
def Pairs (F : List Fel) (T : List (Option Addr × Nat)) (l : List Fel) (S : List (Option Addr × Nat)) : Prop :=
  T.length = F.length ∧ ∀ (k : Nat) (f : Fel) (s : Option Addr × Nat), F[k]? = some f → T[k]? = some s → ∃ i : Nat, l[i]? = some f ∧ S[i]? = some s
theorem Pairs.nil (l : List Fel) (S : List (Option Addr × Nat)) : Pairs [] [] l S := ⟨rfl, fun k f s h => by simp at h⟩
theorem Pairs.snoc {F l : List Fel} {T S : List (Option Addr × Nat)} (h : Pairs F T l S) {j : Nat} {f : Fel} {s : Option Addr × Nat} (hf : l[j]? = some f) (hs : S[j]? = some s) : Pairs (F ++ [f]) (T ++ [s]) l S := by
  refine ⟨by simp [h.1], fun k g t hg ht => ?_⟩
  by_cases hk : k < F.length
  · rw [List.getElem?_append_left hk] at hg
    rw [List.getElem?_append_left (by rw [h.1]; exact hk)] at ht
    exact h.2 k g t hg ht
  · have hk2 := (List.getElem?_eq_some_iff.1 hg).1
    rw [List.length_append, List.length_singleton] at hk2
    obtain rfl : k = F.length := by omega
    rw [List.getElem?_append_right (Nat.le_refl _), Nat.sub_self] at hg
    rw [List.getElem?_append_right (by rw [h.1]; exact Nat.le_refl _), h.1, Nat.sub_self] at ht
    simp at hg ht
    subst hg ht
    exact ⟨j, hf, hs⟩
theorem Pairs.rd {w : World} {B n : Nat} {A : Option Addr} {F l : List Fel} {T S : List (Option Addr × Nat)} (h : Pairs F T l S) (hr : RdF w B A n l S) (k : Nat) (f : Fel) (s : Option Addr × Nat) (hf : F[k]? = some f) (hs : T[k]? = some s) :
    Rd w B 1 s.1 f.b.length (bvs f.b) ∧ f.b.length ≤ s.2 ∧ s.2 ≤ 9223372036854775807 := by
  obtain ⟨i, h1, h2⟩ := h.2 k f s hf hs
  exact hr.2.2.2 i f s h1 h2

/-- One field more on one of two rows. -/
theorem two_step {w wr w2 : World} {e : TypeId} {g1 g2 n1 n2 c1 c2 g cap H : Nat} {F1 : List Fel} {T1 : List (Option Addr × Nat)} {xs2 : List Value} {f : Fel} {s : Option Addr × Nat} {o : Obj} (hb : Below w.heap.size w wr) (hT : T1.length = F1.length) (hgg : g1 ≠ g2) (hg2 : g2 < wr.heap.size)
    (h1 : wr.ownsRow w.heap.size e 4 (.slice (some ⟨g1, 0, none⟩) n1 c1) n1 (rcells F1 T1)) (h2 : wr.ownsRow w.heap.size e 4 (.slice (some ⟨g2, 0, none⟩) n2 c2) n2 xs2)
    (hown : w2.ownsRow w.heap.size e 4 (.slice (some ⟨g, 0, none⟩) (n1 + 1) cap) (n1 + 1) (rcells F1 T1 ++ fcells f s)) (hgrow : (wr.alloc o).grownBy w2 (Value.slice (some ⟨g1, 0, none⟩) n1 c1).ownBlock) (hat : (Value.slice (some ⟨g1, 0, none⟩) n1 c1).ownBlock = some g ∨ g = H) (hH : H = wr.heap.size + 1) :
    w2.ownsRow w.heap.size e 4 (.slice (some ⟨g, 0, none⟩) (n1 + 1) cap) (n1 + 1) (rcells (F1 ++ [f]) (T1 ++ [s])) ∧ w2.ownsRow w.heap.size e 4 (.slice (some ⟨g2, 0, none⟩) n2 c2) n2 xs2 ∧ g ≠ g2 ∧ g < w2.heap.size ∧ g2 < w2.heap.size ∧ Below w.heap.size w w2 := by
  have hsz := hb.size
  have hb2 : Below w.heap.size w w2 := (hb.alloc hsz _).grown hgrow (by simp; omega) (fun k hk => by simp [Value.ownBlock] at hk; have := (h1.lt k (by simp [Value.ownBlock, hk])).1; omega)
  have hlt := (hown.lt g (by simp [Value.ownBlock])).2
  have hs2 : wr.heap.size + 1 ≤ w2.heap.size := by have := hgrow.size; simpa using this
  refine ⟨?_, ?_, ?_, hlt, by omega, hb2⟩
  · rw [rcells_app _ _ _ _ hT, rcells_one]; exact hown
  · exact (h2.alloc o).kept hgrow (.inr (by simp [Value.ownBlock]; omega))
  · rcases hat with h | h
    · simp [Value.ownBlock] at h; omega
    · omega
theorem filter_snoc {l : List Fel} {j : Nat} {f : Fel} (p : Fel → Bool) (h : l[j]? = some f) : (l.take (j + 1)).filter p = (l.take j).filter p ++ if p f then [f] else [] := by
  rw [List.take_add_one, h, List.filter_append]
  simp [List.filter_cons]

set_option maxHeartbeats 1000000 in
set_option maxRecDepth 100000 in
theorem rsplit_any (A : Option Addr) (n c : Nat) (most : Int) (l : List Fel) (S : List (Option Addr × Nat)) (w : World) (h : RdF w w.heap.size A n l S) (hnc : n ≤ c) (hmax : c ≤ 9223372036854775807) (hn : n ≤ 1000000) :
    Calls Try.prog 17 #[.slice A n c, .int .i64 most] w fun e w' => ∃ u v, e = .returned (.tuple #[u, v]) ∧ NewRow w' (l.filter fun f => decide (f.num ≤ most)) u ∧ NewRow w' (l.filter fun f => !decide (f.num ≤ most)) v ∧ Below w.heap.size w w' := by
  obtain ⟨i0, hi, hz0, hz1, hz2⟩ := info_parts field_info
  have HR := Lib.hid h
  have HN := Lib.hid h.1
  clear h
  go_enter Try.func17, Try.ntmps17
  go_wp2
  go_loopw [6, 7, 8] (fun u v i wr => ∃ (j n1 n2 c1 c2 g1 g2 : Nat) (F1 F2 : List Fel) (T1 T2 : List (Option Addr × Nat)), j ≤ n ∧ i = .int .i64 (j : Int) ∧ u = .slice (some ⟨g1, 0, none⟩) n1 c1 ∧ v = .slice (some ⟨g2, 0, none⟩) n2 c2 ∧ g1 ≠ g2 ∧ g1 < wr.heap.size ∧ g2 < wr.heap.size ∧ n1 ≤ j ∧ n2 ≤ j ∧
      wr.ownsRow w.heap.size 39 4 (.slice (some ⟨g1, 0, none⟩) n1 c1) n1 (rcells F1 T1) ∧ wr.ownsRow w.heap.size 39 4 (.slice (some ⟨g2, 0, none⟩) n2 c2) n2 (rcells F2 T2) ∧
      Pairs F1 T1 l S ∧ Pairs F2 T2 l S ∧ (l.take j).filter (fun f => decide (f.num ≤ most)) = F1 ∧ (l.take j).filter (fun f => !decide (f.num ≤ most)) = F2 ∧ F1.length = n1 ∧ F2.length = n2 ∧ Below w.heap.size w wr) (fun _ _ i _ => n - (intOf i).toNat)
  case atStart =>
    have r1 : ((w.alloc (.cells #[] 39)).alloc (.cells #[] 39)).ownsRow w.heap.size 39 4 (.slice (some ⟨w.heap.size, 0, none⟩) 0 0) 0 [] := (World.ownsRow_made w #[] 0 (Nat.le_refl _) (by unfold maxLen; omega) rfl).alloc _
    have r2 : ((w.alloc (.cells #[] 39)).alloc (.cells #[] 39)).ownsRow w.heap.size 39 4 (.slice (some ⟨w.heap.size + 1, 0, none⟩) 0 0) 0 [] := by
      have h := World.ownsRow_made (e := 39) (size := 4) (base := w.heap.size) (w.alloc (.cells #[] 39)) #[] 0 (by simp) (by unfold maxLen; omega) rfl
      simpa using h
    exact ⟨0, 0, 0, 0, 0, w.heap.size, w.heap.size + 1, [], [], [], [], by omega, rfl, rfl, rfl, by omega, by simp; omega, by simp, by omega, by omega, r1, r2, Pairs.nil _ _, Pairs.nil _ _, rfl, rfl, rfl, rfl, ((Below.refl _ _).alloc (Nat.le_refl _) _).alloc (by simp) _⟩
  case round =>
    obtain ⟨j, n1, n2, c1, c2, g1, g2, F1, F2, T1, T2, hj, rfl, rfl, rfl, hgg, hg1, hg2, hn1, hn2, hown1, hown2, hp1, hp2, hF1, hF2, hl1, hl2, hb⟩ := hrel
    have HO1 := Lib.hid hown1
    have HO2 := Lib.hid hown2
    have HF1 := Lib.hid hF1
    have HF2 := Lib.hid hF2
    have HL1 := Lib.hid hl1
    have HL2 := Lib.hid hl2
    have hsz := hb.size
    clear hown1 hown2 hF1 hF2 hl1 hl2
    by_cases hlt : j < n
    · obtain ⟨ad, f, s, rfl, hab, hf, hs, k0, k1, k2, k3, hrd, hs1, hs2⟩ := (HR.out.below hb).spell hlt
      have hw1 := few_one f.num f.wire (f.n : Int) s.1 f.b.length s.2
      have hTF1 := hp1.1
      have hTF2 := hp2.1
      by_cases hm : f.num ≤ most
      · go_wp2_with (at_builtin; refine wpList_append_lies _ rfl (.tmp 24) (.tmp 29) 22 rfl w.heap.size 39 i0 (.agg #[.int .i64 0, .int .i64 0, .int .u64 0, .slice none 0 0]) 4 48 Try.underlying22 hi hz0 hz1 hz2 rfl (by decide) _ n1 _ rfl (HO1.out.alloc _) ⟨wr.heap.size, 0, none⟩ 1 1 [.int .i64 f.num, .int .i64 f.wire, .int .u64 (f.n : Int), .slice s.1 f.b.length s.2] rfl rfl (cells4_new _ _ _ _ _ _) hw1 (by decide) (by unfold maxLen; omega) (by omega) (by simp; omega) (wr.heap.size + 1) (by simp) ?_)
        intro g cap w2 hown hgrow hat hltg
        obtain ⟨r1, r2, r3, r4, r5, r6⟩ := two_step (f := f) (s := s) hb hTF1 hgg hg2 HO1.out HO2.out hown hgrow hat rfl
        clear hown hgrow hat hltg
        go_wp2
        go_roundw
        case rel =>
          refine ⟨j + 1, n1 + 1, n2, cap, c2, g, g2, F1 ++ [f], F2, T1 ++ [s], T2, by omega, by go_num, rfl, rfl, r3, r4, r5, by omega, by omega, r1, r2, hp1.snoc hf hs, hp2, ?_, ?_, by simp [HL1.out], HL2.out, r6⟩
          · rw [filter_snoc _ hf, HF1.out, if_pos (by simpa using hm)]
          · rw [filter_snoc _ hf, HF2.out, if_neg (by simpa using hm)]; simp
        case measure => simp [intOf]; omega
      · go_wp2_with (at_builtin; refine wpList_append_lies _ rfl (.tmp 31) (.tmp 36) 22 rfl w.heap.size 39 i0 (.agg #[.int .i64 0, .int .i64 0, .int .u64 0, .slice none 0 0]) 4 48 Try.underlying22 hi hz0 hz1 hz2 rfl (by decide) _ n2 _ rfl (HO2.out.alloc _) ⟨wr.heap.size, 0, none⟩ 1 1 [.int .i64 f.num, .int .i64 f.wire, .int .u64 (f.n : Int), .slice s.1 f.b.length s.2] rfl rfl (cells4_new _ _ _ _ _ _) hw1 (by decide) (by unfold maxLen; omega) (by omega) (by simp; omega) (wr.heap.size + 1) (by simp) ?_)
        intro g cap w2 hown hgrow hat hltg
        obtain ⟨r1, r2, r3, r4, r5, r6⟩ := two_step (f := f) (s := s) hb hTF2 (Ne.symm hgg) hg1 HO2.out HO1.out hown hgrow hat rfl
        clear hown hgrow hat hltg
        go_wp2
        go_roundw
        case rel =>
          refine ⟨j + 1, n1, n2 + 1, c1, cap, g1, g, F1, F2 ++ [f], T1, T2 ++ [s], by omega, by go_num, rfl, rfl, Ne.symm r3, r5, r4, by omega, by omega, r2, r1, hp1, hp2.snoc hf hs, ?_, ?_, HL1.out, by simp [HL2.out], r6⟩
          · rw [filter_snoc _ hf, HF1.out, if_neg (by simpa using hm)]; simp
          · rw [filter_snoc _ hf, HF2.out, if_pos (by simpa using hm)]
        case measure => simp [intOf]; omega
    · obtain rfl : j = n := by omega
      have hk : l.take j = l := List.take_of_length_le (by have := HN.out; omega)
      have e1 := HF1.out
      have e2 := HF2.out
      rw [hk] at e1 e2
      have HE1 := Lib.hid e1
      have HE2 := Lib.hid e2
      obtain ⟨x1, x2⟩ := own_cap HO1.out
      obtain ⟨y1, y2⟩ := own_cap HO2.out
      have m1 : NewRow wr F1 (.slice (some ⟨g1, 0, none⟩) n1 c1) := ⟨_, n1, c1, T1, rfl, x1, x2, HL1.out, by rw [hp1.1]; exact HL1.out, Rd.of_own HO1.out, fun k f s hf hs => by
        have := hp1.rd (HR.out.below hb) k f s hf hs
        exact ⟨this.1.more hsz, this.2⟩⟩
      have m2 : NewRow wr F2 (.slice (some ⟨g2, 0, none⟩) n2 c2) := ⟨_, n2, c2, T2, rfl, y1, y2, HL2.out, by rw [hp2.1]; exact HL2.out, Rd.of_own HO2.out, fun k f s hf hs => by
        have := hp2.rd (HR.out.below hb) k f s hf hs
        exact ⟨this.1.more hsz, this.2⟩⟩
      have M1 := Lib.hid m1
      have M2 := Lib.hid m2
      clear e1 e2 hk m1 m2 hp1 hp2
      go_wp2
      go_ret2
      exact ⟨.slice (some ⟨g1, 0, none⟩) n1 c1, .slice (some ⟨g2, 0, none⟩) n2 c2, rfl, by rw [HE1.out]; exact M1.out, by rw [HE2.out]; exact M2.out, hb⟩
end Go.Proofs.Ytpbhmhagailhfaa
