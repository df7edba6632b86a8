/-
  The walk of the landed tlv.Take: a row of fields, taken.
-/
import Derived.Test.YtpbhmhagailhfaaTlField
import Derived.Test.YtpbhmhagailhfaaTlPMay
namespace Go.Proofs.Ytpbhmhagailhfaa
open Go.RowKit
open Tl (Fel falls fit takeGo takeRow fieldOf)
open Tg (ttake tskip skip_tag)

/-- Where the bytes of a row's fields lie: none of them in block g0, none in the row's own. -/
def LieO (w : World) (g0 : Nat) (row : Option Nat) (F : List Fel) (T : List (Option Addr × Nat)) : Prop :=
  ∀ (k : Nat) (f : Fel) (s : Option Addr × Nat), F[k]? = some f → T[k]? = some s → Rd w w.heap.size 1 s.1 f.b.length (bvs f.b) ∧ f.b.length ≤ s.2 ∧ s.2 ≤ 9223372036854775807 ∧ (f.b.length = 0 ∨ ∀ ad : Addr, s.1 = some ad → ad.block ≠ g0 ∧ some ad.block ≠ row)
theorem LieO.nil (w : World) (g0 : Nat) (row : Option Nat) : LieO w g0 row [] [] := fun k f s h => by simp at h
theorem LieO.below {w w' : World} {g0 : Nat} {row : Option Nat} {F : List Fel} {T : List (Option Addr × Nat)} (h : LieO w g0 row F T) (hb : Below w.heap.size w w') : LieO w' g0 row F T := fun k f s hf hs => by
  obtain ⟨h1, h2, h3, h4⟩ := h k f s hf hs
  exact ⟨(h1.below hb).more hb.size, h2, h3, h4⟩
theorem LieO.grown {w w' : World} {g0 : Nat} {row r : Option Nat} {F : List Fel} {T : List (Option Addr × Nat)} (h : LieO w g0 row F T) (hg : w.grownBy w' r) (hr : r = some g0 ∨ r = row) : LieO w' g0 row F T := fun k f s hf hs => by
  obtain ⟨h1, h2, h3, h4⟩ := h k f s hf hs
  refine ⟨(h1.grown (Nat.le_refl _) hg (h4.imp id fun h4 ad had => ?_)).more hg.size, h2, h3, h4⟩
  have := h4 ad had
  rcases hr with rfl | rfl
  · simpa using this.1
  · exact this.2
theorem LieO.rerow {w : World} {g0 g H : Nat} {row : Option Nat} {F : List Fel} {T : List (Option Addr × Nat)} {w' : World} {o : Obj} (h : LieO w g0 row F T) (hg : (w.alloc o).grownBy w' row) (hat : row = some g ∨ g = H) (hH : H = w.heap.size + 1) : LieO w' g0 (some g) F T := fun k f s hf hs => by
  obtain ⟨h1, h2, h3, h4⟩ := h k f s hf hs
  have h5 := (h1.alloc (Nat.le_refl _) o).grown (by simp) hg (h4.imp id fun h4 ad had => (h4 ad had).2)
  have hsz : w.heap.size ≤ w'.heap.size := by have := hg.size; simp at this; omega
  refine ⟨h5.more hsz, h2, h3, ?_⟩
  by_cases h0 : f.b.length = 0
  · exact .inl h0
  · right
    intro ad had
    have h6 := (h4.resolve_left h0) ad had
    refine ⟨h6.1, ?_⟩
    rcases hat with hat | hat
    · rw [← hat]; exact h6.2
    · rcases h1.2 with hz | ⟨ad', hA, hlt, _⟩
      · exact absurd hz h0
      · rw [had] at hA
        cases hA
        simp; omega
theorem LieO.snoc {w : World} {g0 : Nat} {row : Option Nat} {F : List Fel} {T : List (Option Addr × Nat)} (h : LieO w g0 row F T) (hl : T.length = F.length) {f : Fel} {s : Option Addr × Nat} (h1 : Rd w w.heap.size 1 s.1 f.b.length (bvs f.b)) (h2 : f.b.length ≤ s.2) (h3 : s.2 ≤ 9223372036854775807)
    (h4 : f.b.length = 0 ∨ ∀ ad : Addr, s.1 = some ad → ad.block ≠ g0 ∧ some ad.block ≠ row) : LieO w g0 row (F ++ [f]) (T ++ [s]) := fun k f' s' hf hs => by
  by_cases hk : k < F.length
  · rw [List.getElem?_append_left hk] at hf
    rw [List.getElem?_append_left (by omega)] at hs
    exact h k f' s' hf hs
  · have hk2 := (List.getElem?_eq_some_iff.1 hf).1
    rw [List.length_append, List.length_singleton] at hk2
    obtain rfl : k = F.length := by omega
    rw [List.getElem?_append_right (Nat.le_refl _), Nat.sub_self] at hf
    rw [List.getElem?_append_right (by omega), hl, Nat.sub_self] at hs
    simp at hf hs
    subst hf hs
    exact ⟨h1, h2, h3, h4⟩

def lenOf' : Value → Nat
  | .slice _ n _ => n
  | _ => 0

set_option maxHeartbeats 4000000 in
set_option maxRecDepth 100000 in
theorem take_row (A : Option Addr) (n c : Nat) (bs : List Nat) (w : World) (hb : ∀ c ∈ bs, c < 256) (h : Rd w w.heap.size 1 A n (bvs bs)) (hnc : n ≤ c) (hmax : c ≤ 9223372036854775807) :
    Calls Try.prog 14 #[.slice A n c] w fun e w' => ∃ v, e = .returned (.tuple #[v, .int .i64 ((takeRow bs).2 : Nat)]) ∧ NewRow w' (takeRow bs).1 v ∧ Below w.heap.size w w' := by
  obtain ⟨i0, hi, hz0, hz1, hz2⟩ := info_parts field_info
  obtain ⟨j0, ji, jz0, jz1, jz2⟩ := info_parts byte_info
  have hlen : bs.length = n := by have := h.1; rw [bvs_len] at this; omega
  have HL := Lib.hid hlen
  have HR := Lib.hid h
  have HB := Lib.hid hb
  clear hlen h hb
  by_cases hbig : 16384 < n
  · have hv : takeRow bs = ([], 4) := by unfold takeRow; rw [if_pos (by rw [HL.out]; exact hbig)]
    have HV := Lib.hid hv
    clear hv
    go_enter Try.func14, Try.ntmps14
    go_wp2
    go_ret2
    refine ⟨.slice none 0 0, by rw [HV.out]; rfl, ?_, Below.refl _ _⟩
    rw [HV.out]
    exact ⟨none, 0, 0, [], rfl, Nat.le_refl _, by omega, RdF.nil _ _ _⟩
  · have hv : takeRow bs = takeGo n none bs := by unfold takeRow; rw [if_neg (by rw [HL.out]; exact hbig), HL.out]
    have HV := Lib.hid hv
    clear hv
    obtain ⟨g0, hg0⟩ : ∃ g0, g0 = w.heap.size := ⟨_, rfl⟩
    go_enter Try.func14, Try.ntmps14
    go_wp2_with fail
    refine (rising_any w).mono ?_
    rintro e w0 ⟨rfl, hw0⟩
    have hk0 : Blk w0 g0 39 (fblk noneAhead (none, 0)) := by rw [hw0, hg0]; exact Blk.new _ _ _
    have hb0 : Below w.heap.size w w0 := by rw [hw0]; exact (Below.refl _ _).alloc (Nat.le_refl _) _
    rw [← hg0]
    have HG0 := Lib.hid hg0
    have HK0 := Lib.hid hk0
    clear hw0 hk0 hg0
    unfold riseOf
    go_wp2
    go_loopw [0, 5] (fun b o wr => ∃ (k m n' c' : Nat) (A' : Option Addr) (bs' : List Nat) (F : List Fel) (T : List (Option Addr × Nat)) (p : Fel) (sp : Option Addr × Nat), b = .slice A' n' c' ∧ n' ≤ c' ∧ c' ≤ 9223372036854775807 ∧ Rd w w.heap.size 1 A' n' (bvs bs') ∧ n' ≤ k ∧ (∀ c ∈ bs', c < 256) ∧ n' + m ≤ n ∧
        o.ownBlock ≠ some g0 ∧ wr.ownsRow w.heap.size 39 4 o m (rcells F T) ∧ F.length = m ∧ T.length = m ∧ LieO wr g0 o.ownBlock F T ∧ acc F (takeGo k F.getLast? bs') = takeRow bs ∧
        (∀ q : Fel, fit q = true → falls p q = F.getLast?.any (falls · q)) ∧ Blk wr g0 39 (fblk p sp) ∧ Below w.heap.size w wr) (fun b _ _ => lenOf' b)
    case atStart =>
      refine ⟨n, 0, n, c, A, bs, [], [], noneAhead, (none, 0), rfl, hnc, hmax, HR.out, Nat.le_refl _, HB.out, by omega, by simp [Value.ownBlock], World.ownsRow_nil _ _ _ _, rfl, rfl, LieO.nil _ _ _, ?_, fun q hq => falls_zero hq, HK0.out, hb0⟩
      rw [HV.out]; exact acc_nil _ (Tl.takeGo_no n none bs)
    case round =>
      obtain ⟨k, m, n', c', A', bs', F, T, p, sp, rfl, hnc', hmax', hr', hnk, hb', hnm, hog, hown, hF, hT, hlie, hacc, hfa, hk, hb⟩ := hrel
      have hlen' : bs'.length = n' := by have := hr'.1; rw [bvs_len] at this; omega
      have hltg := hk.lt
      have HR' := Lib.hid hr'
      have HB' := Lib.hid hb'
      have HO := Lib.hid hown
      have HOG := Lib.hid hog
      have HF := Lib.hid hF
      have HT := Lib.hid hT
      have HLI := Lib.hid hlie
      have HAC := Lib.hid hacc
      have HL' := Lib.hid hlen'
      have HFA := Lib.hid hfa
      have HK := Lib.hid hk
      have hsz := hb.size
      clear hr' hb' hown hF hT hlie hacc hlen' hfa hk hog
      by_cases hpos : 0 < n'
      · have hne : bs' ≠ [] := fun h => by have := HL'.out; rw [h] at this; simp at this; omega
        obtain ⟨k, rfl⟩ : ∃ k', k = k' + 1 := ⟨k - 1, by omega⟩
        obtain ⟨s, e, hse⟩ : ∃ s e, tskip bs' = (s, e) := ⟨_, _, rfl⟩
        have hskip := skip_tag A' n' c' bs' wr HB'.out ((HR'.out.below hb).more hsz) hnc' hmax'
        rw [hse] at hskip
        have HSK := Lib.hid hskip
        have HSE := Lib.hid hse
        clear hskip hse
        by_cases he : e = 0
        · subst he
          obtain ⟨h1, h2, h3, h4, h5, h6⟩ := Tl.fieldOf_back HB'.out HSE.out
          obtain ⟨q1, q2⟩ := cut_field HB'.out HSE.out
          rw [HL'.out] at h2
          have hcut1 := HR'.out.bytes_to h2
          have hcut2 := HR'.out.bytes_from h2 hnc'
          have hsl2 := run_from (P := Try.prog) 23 5 j0 1 Try.underlying23 ji jz1 A' n' c' s .i64 h2
          obtain ⟨A4, hA4⟩ : ∃ A4, cutAt A' c' 1 s = A4 := ⟨_, rfl⟩
          rw [hA4] at hcut2
          simp only [hA4] at hsl2
          obtain ⟨f, hf⟩ : ∃ f, fieldOf bs' = f := ⟨_, rfl⟩
          rw [hf] at q2 h4
          obtain ⟨bt, hbt⟩ : ∃ bt, bs'.take s = bt := ⟨_, rfl⟩
          rw [hbt] at q1 q2 hcut1
          have HFF := Lib.hid hf
          have HQ1 := Lib.hid q1
          have HQ2 := Lib.hid q2
          have HFIT := Lib.hid h4
          have HC1 := Lib.hid hcut1
          have HC2 := Lib.hid hcut2
          have HBT := Lib.hid (show ∀ c ∈ bt, c < 256 from fun c hc => HB'.out c (List.mem_of_mem_take (by rw [hbt]; exact hc)))
          clear h3 h4 h5 h6 q1 q2 hcut1 hcut2 hA4 hf hbt
          go_wp2_with fail
          refine HSK.out.mono ?_
          rintro e' w1 ⟨rfl, hb1⟩
          have hbw1 := hb.trans (hb1.mono hsz)
          go_wp2_with fail
          refine (field_any A' s c' bt w1 HBT.out ((HC1.out.below hbw1).more hbw1.size) (by omega) hmax' (by omega) HQ1.out).mono ?_
          rintro e' w2 ⟨s8, rfl, hr8, hs8, hm8, ha8, hb2⟩
          rw [HQ2.out] at hr8 hs8 ha8
          rw [HQ2.out]
          unfold aggOf
          have hbr2 : Below wr.heap.size wr w2 := hb1.trans (hb2.mono hb1.size)
          have hbw2 := hb.trans (hbr2.mono hsz)
          have ha9 : f.b.length = 0 ∨ ∀ ad : Addr, s8.1 = some ad → wr.heap.size ≤ ad.block := ha8.imp id fun h ad had => Nat.le_trans hb1.size (h ad had)
          obtain ⟨gb, hgb⟩ : ∃ gb, gb = w2.heap.size := ⟨_, rfl⟩
          obtain ⟨w3, hw3⟩ : ∃ w3 : World, w3 = w2.alloc (.cells #[.int .i64 f.num, .int .i64 f.wire, .int .u64 (f.n : Int), .slice s8.1 f.b.length s8.2] 39) := ⟨_, rfl⟩
          have hk3 : Blk w3 gb 39 (fblk f s8) := by rw [hw3, hgb]; exact Blk.new _ _ _
          have hbr3 : Below wr.heap.size wr w3 := by rw [hw3]; exact hbr2.alloc hbr2.size _
          have hgb2 : wr.heap.size ≤ gb := by rw [hgb]; exact hbr2.size
          have hlt3 := hk3.lt
          have hr3 : Rd w3 w3.heap.size 1 s8.1 f.b.length (bvs f.b) := by rw [hw3]; exact (hr8.alloc (Nat.le_refl _) _).more (by simp)
          have HR8 := Lib.hid hr3
          have HA8 := Lib.hid ha9
          have HK3 := Lib.hid hk3
          have HW3 := Lib.hid hw3
          have HGB := Lib.hid hgb
          obtain ⟨D, hD⟩ : ∃ D, falls p f = D := ⟨_, rfl⟩
          have hcall := rise_any g0 p f sp s8 w3 (HK.out.below hbr3 hltg)
          rw [hD] at hcall
          have HC := Lib.hid hcall
          have HD := Lib.hid (show F.getLast?.any (falls · f) = D by rw [← HFA.out f HFIT.out]; exact hD)
          clear hcall hD hw3 hgb hk3 hr3 hr8 ha8 ha9 hb1 hb2 hbw1 HC1 HQ1 HQ2 HSK
          go_wp2_with fail
          rw [← HW3.out, ← HGB.out]
          refine HC.out.mono ?_
          rintro e w4 ⟨rfl, hg4, hk4⟩
          have hbw3 := hb.trans (hbr3.mono hsz)
          have hbw4 : Below w.heap.size w w4 := hbw3.grown hg4 hbw3.size (fun k hk => by injection hk with hk; have := HG0.out; omega)
          have hL4 := ((HLI.out.below hbr3).grown hg4 (.inl rfl)).snoc (by rw [HT.out, HF.out]) (f := f) (s := s8) (((HR8.out.grown (Nat.le_refl _) hg4 (HA8.out.imp id fun h ad had => by have := h ad had; simp; omega))).more hg4.size) hs8 hm8
            (HA8.out.imp id fun h ad had => ⟨by have := h ad had; omega, fun e => by have := h ad had; have := (HO.out.lt _ e.symm).2; omega⟩)
          have hO4 := (own_below HO.out hbr3).kept hg4 (by right; exact HOG.out)
          have z0 := (hg4.cell_far ⟨gb, 0, none⟩ hlt3 (by simp; omega)).trans (HK3.out.cell 0)
          have z1 := (hg4.cell_far ⟨gb, 1, none⟩ hlt3 (by simp; omega)).trans (HK3.out.cell 1)
          have z2 := (hg4.cell_far ⟨gb, 2, none⟩ hlt3 (by simp; omega)).trans (HK3.out.cell 2)
          have z3 := (hg4.cell_far ⟨gb, 3, none⟩ hlt3 (by simp; omega)).trans (HK3.out.cell 3)
          simp [fblk] at z0 z1 z2 z3
          have hg04 := hk4.lt
          have HL4 := Lib.hid hL4
          have HO4 := Lib.hid hO4
          have HK4 := Lib.hid hk4
          have hszw4 := hbw4.size
          clear hL4 hO4 hk4 hg4 HC HR8 HA8 HLI HO HK3 HW3 HGB
          cases D with
          | true =>
            have hfin : takeRow bs = ([], 5) := by rw [← HAC.out, takeGo_falls HSE.out hne (by rw [HFF.out]; exact HD.out), acc_bad (by decide)]
            have HFI := Lib.hid hfin
            clear hfin hne
            go_wp2
            go_ret2
            refine ⟨.slice none 0 0, by rw [HFI.out]; rfl, ?_, hbw4⟩
            rw [HFI.out]
            exact ⟨none, 0, 0, [], rfl, Nat.le_refl _, by omega, RdF.nil _ _ _⟩
          | false =>
            have hgo : acc (F ++ [f]) (takeGo k (F ++ [f]).getLast? (bs'.drop s)) = takeRow bs := by
              rw [← HAC.out, takeGo_go HSE.out hne (by rw [HFF.out]; exact HD.out), acc_acc, HFF.out, List.getLast?_append]
              rfl
            have HGO := Lib.hid hgo
            have hmlt : m ≤ 16384 := by omega
            clear hgo hne
            go_wp2_with (at_builtin; refine wpList_append_lies _ rfl (.tmp 32) (.tmp 34) 22 rfl w.heap.size 39 i0 (.agg #[.int .i64 0, .int .i64 0, .int .u64 0, .slice none 0 0]) 4 48 Try.underlying22 hi hz0 hz1 hz2 rfl (by decide) _ m _ rfl (HO4.out.alloc _) ⟨w4.heap.size, 0, none⟩ 1 1 [.int .i64 f.num, .int .i64 f.wire, .int .u64 (f.n : Int), .slice s8.1 f.b.length s8.2] rfl rfl (cells4_new _ _ _ _ _ _) (few_one _ _ _ _ _ _) (by decide) (by unfold maxLen; omega) (by omega) (by simp; omega) (w4.heap.size + 1) (by simp) ?_)
            intro g2 cap w10 hown10 hgrow10 hat10 hltg10
            have hb10 : Below w.heap.size w w10 := (hbw4.alloc hszw4 _).grown hgrow10 (by simp; omega) (fun k hk => (HO4.out.lt k hk).1)
            have HL10 := Lib.hid (HL4.out.rerow hgrow10 hat10 rfl)
            have HO10 := Lib.hid hown10
            have hk10 : Blk w10 g0 39 (fblk f s8) := (hgrow10.block g0 (by simp; omega) (fun e => HOG.out e.symm)).trans (HK4.out.alloc _)
            have HK10 := Lib.hid hk10
            have hgg : g2 ≠ g0 := by
              rcases hat10 with h | h
              · intro e; exact HOG.out (by rw [h, e])
              · omega
            clear hown10 hgrow10 hat10 hk10
            go_wp2
            go_roundw
            case rel =>
              refine ⟨k, m + 1, n' - s, c' - s, A4, bs'.drop s, F ++ [f], T ++ [s8], f, s8, rfl, by omega, by omega, HC2.out, by omega, fun c hc => HB'.out c (List.mem_of_mem_drop hc), by omega, by simp [Value.ownBlock]; exact hgg, ?_, by simp [HF.out], by simp [HT.out], by simpa [Value.ownBlock] using HL10.out, HGO.out, ?_, HK10.out, hb10⟩
              · rw [rcells_app _ _ _ _ (by rw [HT.out, HF.out]), rcells_one]
                exact HO10.out
              · intro q _
                rw [List.getLast?_append]; rfl
            case measure => simp [lenOf']; omega
        · have hbad : takeRow bs = ([], e) := by rw [← HAC.out, Tl.takeGo_bad HSE.out he hne, acc_bad he]
          have HBAD := Lib.hid hbad
          have q1 : ((e : Int) != 0) = true := by rw [bne_iff_ne]; omega
          clear hbad hne
          go_wp2_with fail
          refine HSK.out.mono ?_
          rintro e' w1 ⟨rfl, hb1⟩
          have hbw1 := hb.trans (hb1.mono hsz)
          go_wp2
          go_ret2
          refine ⟨.slice none 0 0, by rw [HBAD.out]; rfl, ?_, hbw1⟩
          rw [HBAD.out]
          exact ⟨none, 0, 0, [], rfl, Nat.le_refl _, by omega, RdF.nil _ _ _⟩
      · obtain rfl : n' = 0 := by omega
        have hbe : bs' = [] := List.eq_nil_of_length_eq_zero HL'.out
        have hfin : takeRow bs = (F, 0) := by
          rw [← HAC.out, hbe, takeGo_end]
          simp [acc]
        have HFI := Lib.hid hfin
        obtain ⟨A9, c9, rfl, hc9, hm9, hrd9⟩ := RdF.of_own HO.out HF.out HT.out (Nat.le_refl _) (fun k f s hf hs => ⟨(HLI.out k f s hf hs).1, (HLI.out k f s hf hs).2.1, (HLI.out k f s hf hs).2.2.1⟩)
        have HRD9 := Lib.hid hrd9
        clear hbe hfin hrd9
        go_wp2
        go_ret2
        refine ⟨_, by rw [HFI.out]; rfl, ?_, hb⟩
        rw [HFI.out]
        exact ⟨A9, m, c9, T, rfl, hc9, hm9, HRD9.out⟩
end Go.Proofs.Ytpbhmhagailhfaa
