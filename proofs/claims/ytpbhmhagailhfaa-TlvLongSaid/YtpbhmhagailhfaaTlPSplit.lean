/-
  The walk of the landed tlv.Split: a row of fields, parted.
-/
import Derived.Test.YtpbhmhagailhfaaTlSplit
import Derived.Test.YtpbhmhagailhfaaTlRise
import Derived.Test.YtpbhmhagailhfaaTlOne
namespace Go.Proofs.Ytpbhmhagailhfaa
open Go.RowKit
open Tl (Fel)

theorem ne_symm {a b : Option Nat} (h : a = none ∨ a ≠ b) : b = none ∨ b ≠ a := by
  rcases h with rfl | h
  · cases b with
    | none => exact .inl rfl
    | some k => right; simp
  · exact .inr h.symm

/-- One field more on one of two rows, either of which may be none yet; the field's box may lie behind both. -/
theorem two_more {w wr w2 : World} {e : TypeId} {u v : Value} {n1 n2 g cap H : Nat} {F1 : List Fel} {T1 : List (Option Addr × Nat)} {xs2 : List Value} {f : Fel} {s : Option Addr × Nat} {o : Obj} (hb : Below w.heap.size w wr) (hT : T1.length = F1.length) (hne : v.ownBlock = none ∨ v.ownBlock ≠ u.ownBlock)
    (h1 : wr.ownsRow w.heap.size e 4 u n1 (rcells F1 T1)) (h2 : wr.ownsRow w.heap.size e 4 v n2 xs2)
    (hown : w2.ownsRow w.heap.size e 4 (.slice (some ⟨g, 0, none⟩) (n1 + 1) cap) (n1 + 1) (rcells F1 T1 ++ fcells f s)) (hgrow : (wr.alloc o).grownBy w2 u.ownBlock) (hat : u.ownBlock = some g ∨ g = H) (hH : H = wr.heap.size + 1) :
    w2.ownsRow w.heap.size e 4 (.slice (some ⟨g, 0, none⟩) (n1 + 1) cap) (n1 + 1) (rcells (F1 ++ [f]) (T1 ++ [s])) ∧ w2.ownsRow w.heap.size e 4 v n2 xs2 ∧ (v.ownBlock = none ∨ v.ownBlock ≠ some g) ∧ Below w.heap.size w w2 := by
  have hsz := hb.size
  have hb2 : Below w.heap.size w w2 := (hb.alloc hsz _).grown hgrow (by simp; omega) (fun k hk => (h1.lt k hk).1)
  refine ⟨?_, (h2.alloc o).kept hgrow hne, ?_, hb2⟩
  · rw [rcells_app _ _ _ _ hT, rcells_one]; exact hown
  · rcases hat with h | h
    · rw [← h]; exact hne
    · right
      intro e
      have := (h2.lt g e).2
      omega

set_option maxHeartbeats 1000000 in
set_option maxRecDepth 100000 in
theorem split_row (A : Option Addr) (n c : Nat) (most : Int) (l : List Fel) (S : List (Option Addr × Nat)) (w : World) (h : RdF w w.heap.size A n l S) (hnc : n ≤ c) (hmax : c ≤ 9223372036854775807) (hn : n ≤ 20000) (_hw : ∀ f ∈ l, Fok f) (_hm : -9223372036854775808 ≤ most ∧ most ≤ 9223372036854775807) :
    Calls Try.prog 16 #[.slice A n c, .int .i64 most] w fun e w' => ∃ u v, e = .returned (.tuple #[u, v]) ∧ NewRow w' (l.filter fun f => decide (f.num ≤ most)) u ∧ NewRow w' (l.filter fun f => !decide (f.num ≤ most)) v ∧ Below w.heap.size w w' := by
  obtain ⟨i0, hi, hz0, hz1, hz2⟩ := info_parts field_info
  have HR := Lib.hid h
  have HN := Lib.hid h.1
  clear h
  go_enter Try.func16, Try.ntmps16
  go_wp2
  go_loopw [4, 5, 10] (fun u v i wr => ∃ (j n1 n2 : Nat) (F1 F2 : List Fel) (T1 T2 : List (Option Addr × Nat)), j ≤ n ∧ i = .int .i64 (j : Int) ∧ (v.ownBlock = none ∨ v.ownBlock ≠ u.ownBlock) ∧ n1 ≤ j ∧ n2 ≤ j ∧
      wr.ownsRow w.heap.size 39 4 u n1 (rcells F1 T1) ∧ wr.ownsRow w.heap.size 39 4 v n2 (rcells F2 T2) ∧
      Pairs F1 T1 l S ∧ Pairs F2 T2 l S ∧ (l.take j).filter (fun f => decide (f.num ≤ most)) = F1 ∧ (l.take j).filter (fun f => !decide (f.num ≤ most)) = F2 ∧ F1.length = n1 ∧ F2.length = n2 ∧ Below w.heap.size w wr) (fun _ _ i _ => n - (intOf i).toNat)
  case atStart => exact ⟨0, 0, 0, [], [], [], [], by omega, rfl, .inl rfl, by omega, by omega, World.ownsRow_nil _ _ _ _, World.ownsRow_nil _ _ _ _, Pairs.nil _ _, Pairs.nil _ _, rfl, rfl, rfl, rfl, Below.refl _ _⟩
  case round =>
    obtain ⟨j, n1, n2, F1, F2, T1, T2, hj, rfl, hne, hn1, hn2, hown1, hown2, hp1, hp2, hF1, hF2, hl1, hl2, hb⟩ := hrel
    have HO1 := Lib.hid hown1
    have HO2 := Lib.hid hown2
    have HF1 := Lib.hid hF1
    have HF2 := Lib.hid hF2
    have HL1 := Lib.hid hl1
    have HL2 := Lib.hid hl2
    have HNE := Lib.hid hne
    have hsz := hb.size
    clear hown1 hown2 hF1 hF2 hl1 hl2 hne
    by_cases hlt : j < n
    · obtain ⟨ad, f, s, rfl, hab, hf, hs, k0, k1, k2, k3, hrd, hs1, hs2⟩ := (HR.out.below hb).spell hlt
      have hw1 := few_one f.num f.wire (f.n : Int) s.1 f.b.length s.2
      have hTF1 := hp1.1
      have hTF2 := hp2.1
      have HFF := Lib.hid hf
      have HSS := Lib.hid hs
      clear hf hs
      obtain ⟨wb, hwb⟩ : ∃ wb, wb = wr.alloc (.cells #[.int .i64 f.num, .int .i64 f.wire, .int .u64 (f.n : Int), .slice s.1 f.b.length s.2] 39) := ⟨_, rfl⟩
      have hbb : Below w.heap.size w wb := by rw [hwb]; exact hb.alloc hsz _
      have hszb := hbb.size
      have ho1 := HO1.out.alloc (.cells #[.int .i64 f.num, .int .i64 f.wire, .int .u64 (f.n : Int), .slice s.1 f.b.length s.2] 39)
      rw [← hwb] at ho1
      have ho2 := HO2.out.alloc (.cells #[.int .i64 f.num, .int .i64 f.wire, .int .u64 (f.n : Int), .slice s.1 f.b.length s.2] 39)
      rw [← hwb] at ho2
      have HB1 := Lib.hid ho1
      have HB2 := Lib.hid ho2
      have HWB := Lib.hid hwb
      have HWS := Lib.hid (show wr.heap.size + 1 + 1 = wb.heap.size + 1 by rw [hwb]; simp)
      clear hwb ho1 ho2
      by_cases hm : f.num ≤ most
      · go_wp2_with (at_builtin; refine wpList_append_lies _ rfl (.tmp 18) (.tmp 20) 22 rfl w.heap.size 39 i0 (.agg #[.int .i64 0, .int .i64 0, .int .u64 0, .slice none 0 0]) 4 48 Try.underlying22 hi hz0 hz1 hz2 rfl (by decide) _ n1 _ rfl ((HO1.out.alloc _).alloc _) ⟨wr.heap.size + 1, 0, none⟩ 1 1 [.int .i64 f.num, .int .i64 f.wire, .int .u64 (f.n : Int), .slice s.1 f.b.length s.2] rfl rfl (by have h0 := cells4_new (wr.alloc (.cells #[.int .i64 f.num, .int .i64 f.wire, .int .u64 (f.n : Int), .slice s.1 f.b.length s.2] 39)) (.int .i64 f.num) (.int .i64 f.wire) (.int .u64 (f.n : Int)) (.slice s.1 f.b.length s.2) 39; simpa using h0) hw1 (by decide) (by unfold maxLen; omega) (by omega) (by simp; omega) (wr.heap.size + 1 + 1) (by simp) ?_)
        intro g cap w2 hown hgrow hat hltg
        rw [← HWB.out] at hgrow
        obtain ⟨r1, r2, r3, r6⟩ := two_more (f := f) (s := s) hbb hTF1 HNE.out HB1.out HB2.out hown hgrow hat HWS.out
        clear hown hgrow hat hltg
        go_wp2
        go_roundw
        case rel =>
          refine ⟨j + 1, n1 + 1, n2, F1 ++ [f], F2, T1 ++ [s], T2, by omega, by go_num, r3, by omega, by omega, r1, r2, hp1.snoc HFF.out HSS.out, hp2, ?_, ?_, by simp [HL1.out], HL2.out, r6⟩
          · rw [filter_snoc _ HFF.out, HF1.out, if_pos (by simpa using hm)]
          · rw [filter_snoc _ HFF.out, HF2.out, if_neg (by simpa using hm)]; simp
        case measure => simp [intOf]; omega
      · go_wp2_with (at_builtin; refine wpList_append_lies _ rfl (.tmp 22) (.tmp 24) 22 rfl w.heap.size 39 i0 (.agg #[.int .i64 0, .int .i64 0, .int .u64 0, .slice none 0 0]) 4 48 Try.underlying22 hi hz0 hz1 hz2 rfl (by decide) _ n2 _ rfl ((HO2.out.alloc _).alloc _) ⟨wr.heap.size + 1, 0, none⟩ 1 1 [.int .i64 f.num, .int .i64 f.wire, .int .u64 (f.n : Int), .slice s.1 f.b.length s.2] rfl rfl (by have h0 := cells4_new (wr.alloc (.cells #[.int .i64 f.num, .int .i64 f.wire, .int .u64 (f.n : Int), .slice s.1 f.b.length s.2] 39)) (.int .i64 f.num) (.int .i64 f.wire) (.int .u64 (f.n : Int)) (.slice s.1 f.b.length s.2) 39; simpa using h0) hw1 (by decide) (by unfold maxLen; omega) (by omega) (by simp; omega) (wr.heap.size + 1 + 1) (by simp) ?_)
        intro g cap w2 hown hgrow hat hltg
        rw [← HWB.out] at hgrow
        obtain ⟨r1, r2, r3, r6⟩ := two_more (f := f) (s := s) hbb hTF2 (ne_symm HNE.out) HB2.out HB1.out hown hgrow hat HWS.out
        clear hown hgrow hat hltg
        go_wp2
        go_roundw
        case rel =>
          refine ⟨j + 1, n1, n2 + 1, F1, F2 ++ [f], T1, T2 ++ [s], by omega, by go_num, ne_symm r3, by omega, by omega, r2, r1, hp1, hp2.snoc HFF.out HSS.out, ?_, ?_, HL1.out, by simp [HL2.out], r6⟩
          · rw [filter_snoc _ HFF.out, HF1.out, if_neg (by simpa using hm)]; simp
          · rw [filter_snoc _ HFF.out, HF2.out, if_pos (by simpa using hm)]
        case measure => simp [intOf]; omega
    · obtain rfl : j = n := by omega
      have hk : l.take j = l := List.take_of_length_le (by have := HN.out; omega)
      have e1 := HF1.out
      have e2 := HF2.out
      rw [hk] at e1 e2
      have HE1 := Lib.hid e1
      have HE2 := Lib.hid e2
      obtain ⟨A1, c1, hv1, x1, x2, x3⟩ := RdF.of_own HO1.out HL1.out (by rw [hp1.1]; exact HL1.out) hsz (hp1.rd (HR.out.below hb))
      obtain ⟨A2, c2, hv2, y1, y2, y3⟩ := RdF.of_own HO2.out HL2.out (by rw [hp2.1]; exact HL2.out) hsz (hp2.rd (HR.out.below hb))
      have M1 := Lib.hid (show NewRow wr F1 _ from ⟨A1, n1, c1, T1, hv1, x1, x2, x3⟩)
      have M2 := Lib.hid (show NewRow wr F2 _ from ⟨A2, n2, c2, T2, hv2, y1, y2, y3⟩)
      clear e1 e2 hk hv1 hv2 x1 x2 x3 y1 y2 y3 hp1 hp2
      go_wp2
      go_ret2
      exact ⟨_, _, rfl, by rw [HE1.out]; exact M1.out, by rw [HE2.out]; exact M2.out, hb⟩
end Go.Proofs.Ytpbhmhagailhfaa
