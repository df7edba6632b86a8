/-
  The walk of the law FormNeeds.
-/
import Derived.Test.YtmcbifdfpaooaaaFoShown
import Derived.Test.YtmcbifdfpaooaaaFoNeedsP
import Derived.Test.YtmcbifdfpaooaaaFoFour
namespace Go.Proofs.Ytmcbifdfpaooaaa
open Go.RowKit
open Fo (Spc specAll specs inv top check fullF noneF rowOf gWhole gTwice gNone gLess)
open Tl (Fel)

theorem rowOf_len (g : Nat → Spc → List Fel) (hg : ∀ i s, (g i s).length ≤ 2) : ∀ (l : List Spc) (i : Nat), (rowOf g i l).length ≤ 2 * l.length
  | [], _ => by simp [rowOf]
  | s :: l, i => by
    have h1 := rowOf_len g hg l (i + 1)
    have h2 := hg i s
    rw [rowOf, List.length_append, List.length_cons]
    omega
theorem own_empty {w : World} {base g : Nat} (h : w.ownsRow base 39 4 (.slice (some ⟨g, 0, none⟩) 0 0) 0 []) : OwnF w base g (.slice (some ⟨g, 0, none⟩) 0 0) [] := by
  have hl := h.lt g (by simp [Value.ownBlock])
  exact ⟨hl.1, hl.2, 0, [], rfl, h, rfl, fun k f s hf => by simp at hf⟩
theorem row_ok (g : Nat → Spc → List Fel) (hg : ∀ i s, ∀ f ∈ g i s, f = fullF s ∨ f = noneF s) : ∀ (l : List Spc) (i : Nat), (∀ s ∈ l, 1 ≤ s.num ∧ s.num ≤ 10 ∧ (s.wire = 0 ∨ s.wire = 2) ∧ 1 ≤ s.since ∧ s.since ≤ 3) → ∀ f ∈ rowOf g i l, Fok f
  | [], _, _, f, hf => by simp [rowOf] at hf
  | s :: l, i, h, f, hf => by
    rw [rowOf, List.mem_append] at hf
    rcases hf with hf | hf
    · obtain ⟨h1, h2, h3, _⟩ := h s (by simp)
      rcases hg i s f hf with rfl | rfl
      · unfold fullF Fok Fel.wf
        split <;> simp <;> omega
      · unfold noneF Fok Fel.wf
        simp; omega
    · exact row_ok g hg l (i + 1) (fun s hs => h s (by simp [hs])) f hf
theorem rem_kind (x n : Int) (h0 : 0 ≤ x) (h1 : x ≤ 255) (hn : 1 ≤ n) : 0 ≤ x % n ∧ x % n < n := ⟨Int.emod_nonneg _ (by omega), Int.emod_lt_of_pos _ (by omega)⟩

set_option maxHeartbeats 2000000 in
set_option maxRecDepth 100000 in
theorem fneeds_any (kd vs wh : Int) (w : World) (k0 : 0 ≤ kd) (k1 : kd ≤ 255) (v0 : 0 ≤ vs) (v1 : vs ≤ 255) (h0 : 0 ≤ wh) (h1 : wh ≤ 255) :
    Calls Try.prog 6 #[.int .u8 kd, .int .u8 vs, .int .u8 wh] w fun e w' => e = .returned (.bool true) ∧ Below w.heap.size w w' := by
  obtain ⟨i0, hi, hz0, hz1, hz2⟩ := info_parts field_info
  obtain ⟨k, hk⟩ : ∃ k : Int, 1 + kd % 7 = k := ⟨_, rfl⟩
  obtain ⟨v, hv⟩ : ∃ v : Int, 1 + vs % 3 = v := ⟨_, rfl⟩
  have hkb : 1 ≤ k ∧ k ≤ 7 := by omega
  have hvb : 1 ≤ v ∧ v ≤ 3 := by omega
  have HK := Lib.hid hk
  have HV := Lib.hid hv
  have hgood := fun (i : Nat) (s : Spc) (hs : (specs k v)[i]? = some s) => Fo.goodN_at hkb hvb hs
  have hmem := fun s (hs : s ∈ specs k v) => Fo.specs_mem hs
  have hsp := fun w => specs_rec k v w (by omega) (by omega) (by omega) (by omega)
  have hlen := Fo.specs_len k v
  have hne : specs k v ≠ [] := by
    have : ∀ k : Nat, k < 7 → ∀ v : Nat, v < 3 → specs (1 + (k : Int)) (1 + (v : Int)) ≠ [] := by decide +kernel
    have := this (k - 1).toNat (by omega) (v - 1).toNat (by omega)
    rw [show (1 : Int) + ((k - 1).toNat : Int) = k by omega, show (1 : Int) + ((v - 1).toNat : Int) = v by omega] at this
    exact this
  obtain ⟨L, hL⟩ : ∃ L, specs k v = L := ⟨_, rfl⟩
  rw [hL] at hsp hlen hne
  simp only [hL] at hgood hmem
  obtain ⟨n, hn⟩ : ∃ n, L.length = n := ⟨_, rfl⟩
  rw [hn] at hlen
  have hn1 : 1 ≤ n := by
    rcases Nat.eq_zero_or_pos n with h | h
    · rw [h] at hn
      exact absurd (List.eq_nil_of_length_eq_zero hn) hne
    · exact h
  have hat := rem_kind wh n h0 h1 (by omega)
  obtain ⟨at_, hat_⟩ : ∃ at_ : Nat, (wh % (n : Int)) = (at_ : Int) := ⟨(wh % (n : Int)).toNat, by omega⟩
  rw [hat_] at hat
  have hatn : at_ < n := by omega
  have HGOOD := Lib.hid hgood
  have HMEM := Lib.hid hmem
  have HSP := Lib.hid hsp
  have HN := Lib.hid hn
  have HAT := Lib.hid hat_
  clear hk hv hgood hmem hsp hne hL hn hat hat_
  go_enter Try.func6, Try.ntmps6
  go_wp2_with fail
  refine (fshown_any w).mono ?_
  rintro e w1 ⟨rfl, hb1⟩
  have hs1 := hb1.size
  go_wp2_with fail
  rw [HK.out, HV.out]
  refine (HSP.out w1).mono ?_
  rintro e w2 ⟨A2, n2, c2, rfl, hc2, hm2, hn2, hown2, hb2⟩
  obtain rfl : n2 = n := by rw [← hn2, HN.out]
  have hbw2 := hb1.trans (hb2.mono hs1)
  have HR2 := Lib.hid (specs_get hown2 hn2)
  have hs2 := hbw2.size
  have qn : ((n2 : Int) == 0) = false := by rw [beq_eq_false_iff_ne]; omega
  clear hown2 hn2 hb1 hb2
  go_upto_region 8 with fail
  rw [HAT.out]
  go_wp2
  go_loopw [12, 13, 14, 15, 16] (fun a b c d i wr => ∃ j g1 g2 g3 g4 : Nat, j ≤ n2 ∧ i = .int .i64 (j : Int) ∧ OwnF wr w2.heap.size g1 a (rowOf gWhole 0 (L.take j)) ∧ OwnF wr w2.heap.size g2 b (rowOf (gLess at_) 0 (L.take j)) ∧ OwnF wr w2.heap.size g3 c (rowOf (gNone at_) 0 (L.take j)) ∧
      OwnF wr w2.heap.size g4 d (rowOf (gTwice at_) 0 (L.take j)) ∧ (g1 ≠ g2 ∧ g1 ≠ g3 ∧ g1 ≠ g4 ∧ g2 ≠ g3 ∧ g2 ≠ g4 ∧ g3 ≠ g4) ∧ Below w2.heap.size w2 wr) (fun _ _ _ _ i _ => n2 - (intOf i).toNat)
  case atStart =>
    have r : ∀ wx : World, w2.heap.size ≤ wx.heap.size → OwnF (wx.alloc (.cells #[] 39)) w2.heap.size wx.heap.size (.slice (some ⟨wx.heap.size, 0, none⟩) 0 0) [] := fun wx h => own_empty (World.ownsRow_made wx #[] 0 h (by unfold maxLen; omega) rfl)
    have r1 := (((r w2 (Nat.le_refl _)).alloc (.cells #[] 39)).alloc (.cells #[] 39)).alloc (.cells #[] 39)
    have r2 := ((r (w2.alloc (.cells #[] 39)) (by simp)).alloc (.cells #[] 39)).alloc (.cells #[] 39)
    have r3 := (r ((w2.alloc (.cells #[] 39)).alloc (.cells #[] 39)) (by simp; omega)).alloc (.cells #[] 39)
    have r4 := r (((w2.alloc (.cells #[] 39)).alloc (.cells #[] 39)).alloc (.cells #[] 39)) (by simp; omega)
    have e1 : (w2.alloc (.cells #[] 39)).heap.size = w2.heap.size + 1 := by simp
    have e2 : ((w2.alloc (.cells #[] 39)).alloc (.cells #[] 39)).heap.size = w2.heap.size + 1 + 1 := by simp
    have e3 : (((w2.alloc (.cells #[] 39)).alloc (.cells #[] 39)).alloc (.cells #[] 39)).heap.size = w2.heap.size + 1 + 1 + 1 := by simp
    rw [e1] at r2
    rw [e2] at r3
    rw [e3] at r4
    exact ⟨0, _, _, _, _, Nat.zero_le _, rfl, r1, r2, r3, r4, by omega, ((((Below.refl _ _).alloc (Nat.le_refl _) _).alloc (by simp) _).alloc (by simp; omega) _).alloc (by simp; omega) _⟩
  case round =>
    obtain ⟨j, g1, g2, g3, g4, hj, rfl, ho1, ho2, ho3, ho4, hgg, hb⟩ := hrel
    have hsz := hb.size
    by_cases hlt : j < n2
    · obtain ⟨ad, s, hA, hab, hs, c0, c1, c2', c3, c4⟩ := spec_at (HR2.out.below hb) hlt
      subst hA
      have HO1 := Lib.hid ho1
      have HO2 := Lib.hid ho2
      have HO3 := Lib.hid ho3
      have HO4 := Lib.hid ho4
      have HS := Lib.hid hs
      have HGG := Lib.hid hgg
      clear ho1 ho2 ho3 ho4 hs hgg
      have hpl : (ad.add (j * 5)).block < wr.heap.size := by rw [add_block]; omega
      have d0 := (World.cell?_alloc_lt wr (.cells #[.int .i64 0, .int .i64 0, .int .u64 0, .slice none 0 0] 39) (ad.add (j * 5)) hpl).trans c0
      have d1 := (World.cell?_alloc_lt wr (.cells #[.int .i64 0, .int .i64 0, .int .u64 0, .slice none 0 0] 39) ⟨(ad.add (j * 5)).block, (ad.add (j * 5)).off + 1, none⟩ hpl).trans c1
      go_upto_region 15 with fail
      go_cut [17] (fun p wx => p = .pointer (some ⟨wr.heap.size, 0, none⟩) ∧ ∃ m, wx = (wr.alloc (.cells #[.int .i64 s.num, .int .i64 s.wire, .int .u64 0, .slice none 0 0] 39)).drewN m)
      case first =>
        go_region
        all_goals (try go_wp2)
        all_goals go_meet
        case rel => exact ⟨rfl, 1, rfl⟩
      case rest =>
        obtain ⟨rfl, m, hwc⟩ := hcut
        have hwc := hwc.symm
        have hW : wc = (wr.alloc (.cells #[.int .i64 s.num, .int .i64 s.wire, .int .u64 0, .slice none 0 0] 39)).drewN m := hwc.symm
        subst hW
        clear hwc
        go_upto_if 66 with fail
        obtain ⟨F1, hF1⟩ : ∃ F1, rowOf gWhole 0 (L.take j) = F1 := ⟨_, rfl⟩
        obtain ⟨F2, hF2⟩ : ∃ F2, rowOf (gLess at_) 0 (L.take j) = F2 := ⟨_, rfl⟩
        obtain ⟨F3, hF3⟩ : ∃ F3, rowOf (gNone at_) 0 (L.take j) = F3 := ⟨_, rfl⟩
        obtain ⟨F4, hF4⟩ : ∃ F4, rowOf (gTwice at_) 0 (L.take j) = F4 := ⟨_, rfl⟩
        rw [hF1] at HO1
        rw [hF2] at HO2
        rw [hF3] at HO3
        rw [hF4] at HO4
        have q0 : Quad w2 (((wr.alloc (.cells #[.int .i64 s.num, .int .i64 s.wire, .int .u64 0, .slice none 0 0] 39)).drewN m).alloc (.cells #[.int .i64 s.num, .int .i64 s.wire, .int .u64 0, .slice none 0 0] 39)) w2.heap.size wr.heap.size (noneF s) (noneF s) (none, 0) [(g1, u12, F1), (g2, u13, F2), (g3, u14, F3), (g4, u15, F4)] := by
          have l1 := HO1.out.lt
          have l2 := HO2.out.lt
          have l3 := HO3.out.lt
          have l4 := HO4.out.lt
          have hg := HGG.out
          have hn : Blk ((wr.alloc (.cells #[.int .i64 s.num, .int .i64 s.wire, .int .u64 0, .slice none 0 0] 39)).drewN m) wr.heap.size 39 (fcells (noneF s) (none, 0)).toArray := Blk.new wr _ _
          have hn2 := Blk.new ((wr.alloc (.cells #[.int .i64 s.num, .int .i64 s.wire, .int .u64 0, .slice none 0 0] 39)).drewN m) (fcells (noneF s) (none, 0)).toArray 39
          have hbd : Below w2.heap.size w2 ((wr.alloc (.cells #[.int .i64 s.num, .int .i64 s.wire, .int .u64 0, .slice none 0 0] 39)).drewN m) := (hb.alloc hsz _).trans ⟨rfl, rfl, rfl, Nat.le_refl _, fun _ _ => rfl⟩
          refine ⟨?_, ?_, ?_, hn.alloc _, by simpa [fcells, noneF] using hn2, .inl ⟨rfl, rfl⟩, hbd.alloc (by simp; omega) _, hsz⟩
          · intro r hr
            simp only [List.mem_cons, List.not_mem_nil, or_false] at hr
            rcases hr with rfl | rfl | rfl | rfl
            · exact ((HO1.out.alloc _).drewN m).alloc _
            · exact ((HO2.out.alloc _).drewN m).alloc _
            · exact ((HO3.out.alloc _).drewN m).alloc _
            · exact ((HO4.out.alloc _).drewN m).alloc _
          · simp; omega
          · intro r hr
            simp only [List.mem_cons, List.not_mem_nil, or_false] at hr
            rcases hr with rfl | rfl | rfl | rfl <;> simp only <;> omega
        have HF1 := Lib.hid hF1
        have HF2 := Lib.hid hF2
        have HF3 := Lib.hid hF3
        have HF4 := Lib.hid hF4
        clear hF1 hF2 hF3 hF4 HO1 HO2 HO3 HO4 d0 d1 c0 c1 c2' c3 c4
        obtain ⟨wq, hwq⟩ : ∃ wq, wq = (((wr.alloc (.cells #[.int .i64 s.num, .int .i64 s.wire, .int .u64 0, .slice none 0 0] 39)).drewN m).alloc (.cells #[.int .i64 s.num, .int .i64 s.wire, .int .u64 0, .slice none 0 0] 39)) := ⟨_, rfl⟩
        rw [← hwq] at q0 ⊢
        have hqs : wr.heap.size + 1 < wq.heap.size := by rw [hwq]; simp
        clear hwq
        have t2 : wq.cell? ⟨wr.heap.size, 2, none⟩ = some (.int .u64 0) := q0.full.cell 2
        have t3 : wq.cell? ⟨wr.heap.size, 3, none⟩ = some (.slice none 0 0) := q0.full.cell 3
        have t4 := q0.full.frozen 2
        have q1 := q0.alloc (.cells #[.int .u8 1] 5)
        have t5 := q1.full.frozen 3
        have t6 : (wq.alloc (.cells #[.int .u8 1] 5)).cell? ⟨wr.heap.size, 3, none⟩ = some (.slice none 0 0) := q1.full.cell 3
        go_cut [] (fun wx => ∃ s2, Quad w2 wx w2.heap.size wr.heap.size (fullF s) (noneF s) s2 [(g1, u12, F1), (g2, u13, F2), (g3, u14, F3), (g4, u15, F4)])
        case first =>
          by_cases hw2 : s.wire = 2
          · go_wp2
            go_meet
            case rel =>
              have e : fullF s = ⟨s.num, s.wire, 0, [1]⟩ := if_pos hw2
              refine ⟨(some ⟨wq.heap.size, 0, none⟩, 1), ?_⟩
              rw [e]
              exact q1.set (by simp [fcells, noneF]) (.inr ⟨wq.heap.size, #[.int .u8 1], rfl, by simp [bvs, bv], by simp, (Blk.new wq _ _).far (by simp; omega) _⟩)
          · go_wp2
            go_meet
            case rel =>
              have e : fullF s = ⟨s.num, s.wire, 7, []⟩ := if_neg hw2
              refine ⟨(none, 0), ?_⟩
              rw [e]
              exact q0.set (by simp [fcells, noneF]) (.inl ⟨rfl, rfl⟩)
        case rest =>
          obtain ⟨s2, q⟩ := hcut
          clear q0 q1 t2 t3 t4 t5 t6 hqs
          obtain ⟨fb, hfb⟩ : ∃ fb, wr.heap.size = fb := ⟨_, rfl⟩
          rw [hfb] at q ⊢
          obtain ⟨f, hf⟩ : ∃ f, fullF s = f := ⟨_, rfl⟩
          rw [hf] at q
          have HF := Lib.hid hf
          clear hf
          have hgg := HGG.out
          have hlt2 : (L.take j).length ≤ 10 := by simp; omega
          have hl1 : F1.length ≤ 21 := by rw [← HF1.out]; have := rowOf_len gWhole (fun i s => by simp [gWhole]) (L.take j) 0; omega
          have hl2 : F2.length ≤ 21 := by rw [← HF2.out]; have := rowOf_len (gLess at_) (fun i s => by unfold gLess; split <;> simp) (L.take j) 0; omega
          have hl3 : F3.length ≤ 21 := by rw [← HF3.out]; have := rowOf_len (gNone at_) (fun i s => by unfold gNone; split <;> simp) (L.take j) 0; omega
          have hl4 : F4.length ≤ 20 := by rw [← HF4.out]; have := rowOf_len (gTwice at_) (fun i s => by unfold gTwice; split <;> simp) (L.take j) 0; omega
          have O1 : OwnF wc w2.heap.size g1 u12 F1 := q.own (g1, u12, F1) (by simp)
          obtain ⟨x1, T1, rfl, ho1, hT1, hp1⟩ := O1.row
          have z10 : World.cell? wc ⟨fb, 0, none⟩ = some (.int .i64 f.num) := q.full.cell 0
          have z11 : World.cell? wc ⟨fb, 1, none⟩ = some (.int .i64 f.wire) := q.full.cell 1
          have z12 : World.cell? wc ⟨fb, 2, none⟩ = some (.int .u64 f.n) := q.full.cell 2
          have z13 : World.cell? wc ⟨fb, 3, none⟩ = some (.slice s2.1 f.b.length s2.2) := q.full.cell 3
          have hsz1 := q.below.size
          obtain ⟨n1, hne1⟩ : ∃ n1, F1.length = n1 := ⟨_, rfl⟩
          have hle1 : n1 ≤ 21 := by rw [← hne1]; exact hl1
          rw [hne1] at ho1 ⊢
          go_wp2_with (at_builtin; refine wpList_append_lies _ rfl (.tmp 70) (.tmp 72) 22 rfl w2.heap.size 39 i0 (.agg #[.int .i64 0, .int .i64 0, .int .u64 0, .slice none 0 0]) 4 48 Try.underlying22 hi hz0 hz1 hz2 rfl (by decide) _ n1 _ rfl (ho1.alloc _) ⟨wc.heap.size, 0, none⟩ 1 1 (fcells f s2) rfl rfl (cells4_new _ _ _ _ _ _) (few_one f.num f.wire (f.n : Int) s2.1 f.b.length s2.2) (by decide) (by unfold maxLen; omega) (by omega) (by simp; omega) (wc.heap.size + 1) (by simp) ?_)
          intro g1' cap1 y1 hown hgrow hat hltg
          have q1 := Quad.push (A := []) (B := [(g2, u13, F2), (g3, u14, F3), (g4, u15, F4)]) q ho1 hne1 hT1 hp1 q.place hown hgrow hat rfl
          obtain ⟨v1, hv1⟩ : ∃ v1, v1 = Value.slice (some ⟨g1', 0, none⟩) (n1 + 1) cap1 := ⟨_, rfl⟩
          obtain ⟨G1, hG1⟩ : ∃ G1, F1 ++ [f] = G1 := ⟨_, rfl⟩
          rw [← hv1, hG1] at q1
          rw [← hv1]
          have hL1 : G1.length = n1 + 1 := by rw [← hG1]; simp [hne1]
          have HG1 := Lib.hid hG1
          simp only [List.nil_append, List.cons_append] at q1
          clear hown hgrow hat hltg hv1 hG1 O1 ho1 hT1 hp1 z10 z11 z12 z13 q
          have O2 : OwnF y1 w2.heap.size g4 u15 F4 := q1.own (g4, u15, F4) (by simp)
          obtain ⟨x2, T2, rfl, ho2, hT2, hp2⟩ := O2.row
          have z20 : World.cell? y1 ⟨fb, 0, none⟩ = some (.int .i64 f.num) := q1.full.cell 0
          have z21 : World.cell? y1 ⟨fb, 1, none⟩ = some (.int .i64 f.wire) := q1.full.cell 1
          have z22 : World.cell? y1 ⟨fb, 2, none⟩ = some (.int .u64 f.n) := q1.full.cell 2
          have z23 : World.cell? y1 ⟨fb, 3, none⟩ = some (.slice s2.1 f.b.length s2.2) := q1.full.cell 3
          have hsz2 := q1.below.size
          obtain ⟨n2, hne2⟩ : ∃ n2, F4.length = n2 := ⟨_, rfl⟩
          have hle2 : n2 ≤ 21 := by rw [← hne2]; exact (by omega)
          rw [hne2] at ho2 ⊢
          go_wp2_with (at_builtin; refine wpList_append_lies _ rfl (.tmp 74) (.tmp 76) 22 rfl w2.heap.size 39 i0 (.agg #[.int .i64 0, .int .i64 0, .int .u64 0, .slice none 0 0]) 4 48 Try.underlying22 hi hz0 hz1 hz2 rfl (by decide) _ n2 _ rfl (ho2.alloc _) ⟨y1.heap.size, 0, none⟩ 1 1 (fcells f s2) rfl rfl (cells4_new _ _ _ _ _ _) (few_one f.num f.wire (f.n : Int) s2.1 f.b.length s2.2) (by decide) (by unfold maxLen; omega) (by omega) (by simp; omega) (y1.heap.size + 1) (by simp) ?_)
          intro g2' cap2 y2 hown hgrow hat hltg
          have q2 := Quad.push (A := [(g1', v1, G1), (g2, u13, F2), (g3, u14, F3)]) (B := []) q1 ho2 hne2 hT2 hp2 q1.place hown hgrow hat rfl
          obtain ⟨v2, hv2⟩ : ∃ v2, v2 = Value.slice (some ⟨g2', 0, none⟩) (n2 + 1) cap2 := ⟨_, rfl⟩
          obtain ⟨G2, hG2⟩ : ∃ G2, F4 ++ [f] = G2 := ⟨_, rfl⟩
          rw [← hv2, hG2] at q2
          rw [← hv2]
          have hL2 : G2.length = n2 + 1 := by rw [← hG2]; simp [hne2]
          have HG2 := Lib.hid hG2
          simp only [List.nil_append, List.cons_append] at q2
          clear hown hgrow hat hltg hv2 hG2 O2 ho2 hT2 hp2 z20 z21 z22 z23 q1
          by_cases hja : j = at_
          · have e80 : ((j : Int) == (at_ : Int)) = true := by rw [beq_iff_eq]; omega
            have O3 : OwnF y2 w2.heap.size g3 u14 F3 := q2.own (g3, u14, F3) (by simp)
            obtain ⟨x3, T3, rfl, ho3, hT3, hp3⟩ := O3.row
            have z30 : World.cell? y2 ⟨fb + 1, 0, none⟩ = some (.int .i64 s.num) := q2.bare.cell 0
            have z31 : World.cell? y2 ⟨fb + 1, 1, none⟩ = some (.int .i64 s.wire) := q2.bare.cell 1
            have z32 : World.cell? y2 ⟨fb + 1, 2, none⟩ = some (.int .u64 0) := q2.bare.cell 2
            have z33 : World.cell? y2 ⟨fb + 1, 3, none⟩ = some (.slice none 0 0) := q2.bare.cell 3
            have hsz3 := q2.below.size
            obtain ⟨n3, hne3⟩ : ∃ n3, F3.length = n3 := ⟨_, rfl⟩
            have hle3 : n3 ≤ 21 := by rw [← hne3]; exact hl3
            rw [hne3] at ho3 ⊢
            go_wp2_with (at_builtin; refine wpList_append_lies _ rfl (.tmp 81) (.tmp 83) 22 rfl w2.heap.size 39 i0 (.agg #[.int .i64 0, .int .i64 0, .int .u64 0, .slice none 0 0]) 4 48 Try.underlying22 hi hz0 hz1 hz2 rfl (by decide) _ n3 _ rfl (ho3.alloc _) ⟨y2.heap.size, 0, none⟩ 1 1 (fcells (noneF s) (none, 0)) rfl rfl (cells4_new _ _ _ _ _ _) (few_one s.num s.wire 0 none 0 0) (by decide) (by unfold maxLen; omega) (by omega) (by simp; omega) (y2.heap.size + 1) (by simp) ?_)
            intro g3' cap3 y3 hown hgrow hat hltg
            have q3 := Quad.push (A := [(g1', v1, G1), (g2, u13, F2)]) (B := [(g2', v2, G2)]) q2 ho3 hne3 hT3 hp3 (.inl ⟨rfl, rfl⟩) hown hgrow hat rfl
            obtain ⟨v3, hv3⟩ : ∃ v3, v3 = Value.slice (some ⟨g3', 0, none⟩) (n3 + 1) cap3 := ⟨_, rfl⟩
            obtain ⟨G3, hG3⟩ : ∃ G3, F3 ++ [noneF s] = G3 := ⟨_, rfl⟩
            rw [← hv3, hG3] at q3
            rw [← hv3]
            have hL3 : G3.length = n3 + 1 := by rw [← hG3]; simp [hne3]
            have HG3 := Lib.hid hG3
            simp only [List.nil_append, List.cons_append] at q3
            clear hown hgrow hat hltg hv3 hG3 O3 ho3 hT3 hp3 z30 z31 z32 z33 q2
            have O4 : OwnF y3 w2.heap.size g2' v2 G2 := q3.own (g2', v2, G2) (by simp)
            obtain ⟨x4, T4, rfl, ho4, hT4, hp4⟩ := O4.row
            have z40 : World.cell? y3 ⟨fb, 0, none⟩ = some (.int .i64 f.num) := q3.full.cell 0
            have z41 : World.cell? y3 ⟨fb, 1, none⟩ = some (.int .i64 f.wire) := q3.full.cell 1
            have z42 : World.cell? y3 ⟨fb, 2, none⟩ = some (.int .u64 f.n) := q3.full.cell 2
            have z43 : World.cell? y3 ⟨fb, 3, none⟩ = some (.slice s2.1 f.b.length s2.2) := q3.full.cell 3
            have hsz4 := q3.below.size
            obtain ⟨n4, hne4⟩ : ∃ n4, G2.length = n4 := ⟨_, rfl⟩
            have hle4 : n4 ≤ 21 := by rw [← hne4]; exact (by rw [hL2]; omega)
            rw [hne4] at ho4 ⊢
            go_wp2_with (at_builtin; refine wpList_append_lies _ rfl (.tmp 85) (.tmp 87) 22 rfl w2.heap.size 39 i0 (.agg #[.int .i64 0, .int .i64 0, .int .u64 0, .slice none 0 0]) 4 48 Try.underlying22 hi hz0 hz1 hz2 rfl (by decide) _ n4 _ rfl (ho4.alloc _) ⟨y3.heap.size, 0, none⟩ 1 1 (fcells f s2) rfl rfl (cells4_new _ _ _ _ _ _) (few_one f.num f.wire (f.n : Int) s2.1 f.b.length s2.2) (by decide) (by unfold maxLen; omega) (by omega) (by simp; omega) (y3.heap.size + 1) (by simp) ?_)
            intro g4' cap4 y4 hown hgrow hat hltg
            have q4 := Quad.push (A := [(g1', v1, G1), (g2, u13, F2), (g3', v3, G3)]) (B := []) q3 ho4 hne4 hT4 hp4 q3.place hown hgrow hat rfl
            obtain ⟨v4, hv4⟩ : ∃ v4, v4 = Value.slice (some ⟨g4', 0, none⟩) (n4 + 1) cap4 := ⟨_, rfl⟩
            obtain ⟨G4, hG4⟩ : ∃ G4, G2 ++ [f] = G4 := ⟨_, rfl⟩
            rw [← hv4, hG4] at q4
            rw [← hv4]
            have hL4 : G4.length = n4 + 1 := by rw [← hG4]; simp [hne4]
            have HG4 := Lib.hid hG4
            simp only [List.nil_append, List.cons_append] at q4
            clear hown hgrow hat hltg hv4 hG4 O4 ho4 hT4 hp4 z40 z41 z42 z43 q3
            go_wp2
            go_roundw
            case rel =>
              refine ⟨j + 1, g1', g2, g3', g4', by omega, by go_num, ?_, ?_, ?_, ?_, by have := q4.ne; simp at this; omega, q4.below⟩
              · have e : rowOf gWhole 0 (L.take (j + 1)) = G1 := by
                  rw [Fo.rowOf_snoc _ HS.out, HF1.out]
                  rw [← HG1.out]
                  simp [gWhole, HF.out]
                rw [e]; exact q4.own (g1', v1, G1) (by simp)
              · have e : rowOf (gLess at_) 0 (L.take (j + 1)) = F2 := by
                  rw [Fo.rowOf_snoc _ HS.out, HF2.out]
                  skip
                  simp [gLess, hja, HF.out]
                rw [e]; exact q4.own (g2, u13, F2) (by simp)
              · have e : rowOf (gNone at_) 0 (L.take (j + 1)) = G3 := by
                  rw [Fo.rowOf_snoc _ HS.out, HF3.out]
                  rw [← HG3.out]
                  simp [gNone, hja, HF.out]
                rw [e]; exact q4.own (g3', v3, G3) (by simp)
              · have e : rowOf (gTwice at_) 0 (L.take (j + 1)) = G4 := by
                  rw [Fo.rowOf_snoc _ HS.out, HF4.out]
                  rw [← HG4.out, ← HG2.out]
                  simp [gTwice, hja, HF.out]
                rw [e]; exact q4.own (g4', v4, G4) (by simp)
            case measure => simp [intOf]; omega
          · have e80 : ((j : Int) == (at_ : Int)) = false := by rw [beq_eq_false_iff_ne]; omega
            have O3 : OwnF y2 w2.heap.size g3 u14 F3 := q2.own (g3, u14, F3) (by simp)
            obtain ⟨x3, T3, rfl, ho3, hT3, hp3⟩ := O3.row
            have z30 : World.cell? y2 ⟨fb, 0, none⟩ = some (.int .i64 f.num) := q2.full.cell 0
            have z31 : World.cell? y2 ⟨fb, 1, none⟩ = some (.int .i64 f.wire) := q2.full.cell 1
            have z32 : World.cell? y2 ⟨fb, 2, none⟩ = some (.int .u64 f.n) := q2.full.cell 2
            have z33 : World.cell? y2 ⟨fb, 3, none⟩ = some (.slice s2.1 f.b.length s2.2) := q2.full.cell 3
            have hsz3 := q2.below.size
            obtain ⟨n3, hne3⟩ : ∃ n3, F3.length = n3 := ⟨_, rfl⟩
            have hle3 : n3 ≤ 21 := by rw [← hne3]; exact hl3
            rw [hne3] at ho3 ⊢
            go_wp2_with (at_builtin; refine wpList_append_lies _ rfl (.tmp 89) (.tmp 91) 22 rfl w2.heap.size 39 i0 (.agg #[.int .i64 0, .int .i64 0, .int .u64 0, .slice none 0 0]) 4 48 Try.underlying22 hi hz0 hz1 hz2 rfl (by decide) _ n3 _ rfl (ho3.alloc _) ⟨y2.heap.size, 0, none⟩ 1 1 (fcells f s2) rfl rfl (cells4_new _ _ _ _ _ _) (few_one f.num f.wire (f.n : Int) s2.1 f.b.length s2.2) (by decide) (by unfold maxLen; omega) (by omega) (by simp; omega) (y2.heap.size + 1) (by simp) ?_)
            intro g3' cap3 y3 hown hgrow hat hltg
            have q3 := Quad.push (A := [(g1', v1, G1), (g2, u13, F2)]) (B := [(g2', v2, G2)]) q2 ho3 hne3 hT3 hp3 q2.place hown hgrow hat rfl
            obtain ⟨v3, hv3⟩ : ∃ v3, v3 = Value.slice (some ⟨g3', 0, none⟩) (n3 + 1) cap3 := ⟨_, rfl⟩
            obtain ⟨G3, hG3⟩ : ∃ G3, F3 ++ [f] = G3 := ⟨_, rfl⟩
            rw [← hv3, hG3] at q3
            rw [← hv3]
            have hL3 : G3.length = n3 + 1 := by rw [← hG3]; simp [hne3]
            have HG3 := Lib.hid hG3
            simp only [List.nil_append, List.cons_append] at q3
            clear hown hgrow hat hltg hv3 hG3 O3 ho3 hT3 hp3 z30 z31 z32 z33 q2
            have O4 : OwnF y3 w2.heap.size g2 u13 F2 := q3.own (g2, u13, F2) (by simp)
            obtain ⟨x4, T4, rfl, ho4, hT4, hp4⟩ := O4.row
            have z40 : World.cell? y3 ⟨fb, 0, none⟩ = some (.int .i64 f.num) := q3.full.cell 0
            have z41 : World.cell? y3 ⟨fb, 1, none⟩ = some (.int .i64 f.wire) := q3.full.cell 1
            have z42 : World.cell? y3 ⟨fb, 2, none⟩ = some (.int .u64 f.n) := q3.full.cell 2
            have z43 : World.cell? y3 ⟨fb, 3, none⟩ = some (.slice s2.1 f.b.length s2.2) := q3.full.cell 3
            have hsz4 := q3.below.size
            obtain ⟨n4, hne4⟩ : ∃ n4, F2.length = n4 := ⟨_, rfl⟩
            have hle4 : n4 ≤ 21 := by rw [← hne4]; exact hl2
            rw [hne4] at ho4 ⊢
            go_wp2_with (at_builtin; refine wpList_append_lies _ rfl (.tmp 93) (.tmp 95) 22 rfl w2.heap.size 39 i0 (.agg #[.int .i64 0, .int .i64 0, .int .u64 0, .slice none 0 0]) 4 48 Try.underlying22 hi hz0 hz1 hz2 rfl (by decide) _ n4 _ rfl (ho4.alloc _) ⟨y3.heap.size, 0, none⟩ 1 1 (fcells f s2) rfl rfl (cells4_new _ _ _ _ _ _) (few_one f.num f.wire (f.n : Int) s2.1 f.b.length s2.2) (by decide) (by unfold maxLen; omega) (by omega) (by simp; omega) (y3.heap.size + 1) (by simp) ?_)
            intro g4' cap4 y4 hown hgrow hat hltg
            have q4 := Quad.push (A := [(g1', v1, G1)]) (B := [(g3', v3, G3), (g2', v2, G2)]) q3 ho4 hne4 hT4 hp4 q3.place hown hgrow hat rfl
            obtain ⟨v4, hv4⟩ : ∃ v4, v4 = Value.slice (some ⟨g4', 0, none⟩) (n4 + 1) cap4 := ⟨_, rfl⟩
            obtain ⟨G4, hG4⟩ : ∃ G4, F2 ++ [f] = G4 := ⟨_, rfl⟩
            rw [← hv4, hG4] at q4
            rw [← hv4]
            have hL4 : G4.length = n4 + 1 := by rw [← hG4]; simp [hne4]
            have HG4 := Lib.hid hG4
            simp only [List.nil_append, List.cons_append] at q4
            clear hown hgrow hat hltg hv4 hG4 O4 ho4 hT4 hp4 z40 z41 z42 z43 q3
            go_wp2
            go_roundw
            case rel =>
              refine ⟨j + 1, g1', g4', g3', g2', by omega, by go_num, ?_, ?_, ?_, ?_, by have := q4.ne; simp at this; omega, q4.below⟩
              · have e : rowOf gWhole 0 (L.take (j + 1)) = G1 := by
                  rw [Fo.rowOf_snoc _ HS.out, HF1.out]
                  rw [← HG1.out]
                  simp [gWhole, HF.out]
                rw [e]; exact q4.own (g1', v1, G1) (by simp)
              · have e : rowOf (gLess at_) 0 (L.take (j + 1)) = G4 := by
                  rw [Fo.rowOf_snoc _ HS.out, HF2.out]
                  rw [← HG4.out]
                  simp [gLess, hja, HF.out]
                rw [e]; exact q4.own (g4', v4, G4) (by simp)
              · have e : rowOf (gNone at_) 0 (L.take (j + 1)) = G3 := by
                  rw [Fo.rowOf_snoc _ HS.out, HF3.out]
                  rw [← HG3.out]
                  simp [gNone, hja, HF.out]
                rw [e]; exact q4.own (g3', v3, G3) (by simp)
              · have e : rowOf (gTwice at_) 0 (L.take (j + 1)) = G2 := by
                  rw [Fo.rowOf_snoc _ HS.out, HF4.out]
                  rw [← HG2.out]
                  simp [gTwice, hja, HF.out]
                rw [e]; exact q4.own (g2', v2, G2) (by simp)
            case measure => simp [intOf]; omega
    · obtain rfl : j = n2 := by omega
      have hk : L.take j = L := List.take_of_length_le (by have := HN.out; omega)
      rw [hk] at ho1 ho2 ho3 ho4
      have hL10 : L.length ≤ 10 := by rw [HN.out]; exact hlen
      have hl1 := rowOf_len gWhole (fun i s => by simp [gWhole]) L 0
      have hl2 := rowOf_len (gLess at_) (fun i s => by unfold gLess; split <;> simp) L 0
      have hl3 := rowOf_len (gNone at_) (fun i s => by unfold gNone; split <;> simp) L 0
      have hl4 := rowOf_len (gTwice at_) (fun i s => by unfold gTwice; split <;> simp) L 0
      have p1 := row_ok gWhole (fun i s => by simp [gWhole]) L 0 HMEM.out
      have p2 := row_ok (gLess at_) (fun i s => by unfold gLess; split <;> simp) L 0 HMEM.out
      have p3 := row_ok (gNone at_) (fun i s => by unfold gNone; split <;> simp) L 0 HMEM.out
      have p4 := row_ok (gTwice at_) (fun i s => by unfold gTwice; split <;> simp) L 0 HMEM.out
      obtain ⟨ad, s, hA, hab, hs, c0, c1, c2', c3, c4⟩ := spec_at (HR2.out.below hb) hatn
      subst hA
      obtain ⟨m1, m2, m3, m4⟩ := HGOOD.out at_ s hs
      obtain ⟨F1, hF1⟩ : ∃ F1, rowOf gWhole 0 L = F1 := ⟨_, rfl⟩
      obtain ⟨F2, hF2⟩ : ∃ F2, rowOf (gLess at_) 0 L = F2 := ⟨_, rfl⟩
      obtain ⟨F3, hF3⟩ : ∃ F3, rowOf (gNone at_) 0 L = F3 := ⟨_, rfl⟩
      obtain ⟨F4, hF4⟩ : ∃ F4, rowOf (gTwice at_) 0 L = F4 := ⟨_, rfl⟩
      rw [hF1] at ho1 hl1 p1 m1
      rw [hF2] at ho2 hl2 p2 m2
      rw [hF3] at ho3 hl3 p3 m3
      rw [hF4] at ho4 hl4 p4 m4
      obtain ⟨x1, T1, rfl, y1, z1, r1⟩ := ho1.rdf
      obtain ⟨x2, T2, rfl, y2, z2, r2⟩ := ho2.rdf
      obtain ⟨x3, T3, rfl, y3, z3, r3⟩ := ho3.rdf
      obtain ⟨x4, T4, rfl, y4, z4, r4⟩ := ho4.rdf
      obtain ⟨n1, e1⟩ : ∃ n1, F1.length = n1 := ⟨_, rfl⟩
      obtain ⟨n2', e2⟩ : ∃ n2, F2.length = n2 := ⟨_, rfl⟩
      obtain ⟨n3, e3⟩ : ∃ n3, F3.length = n3 := ⟨_, rfl⟩
      obtain ⟨n4, e4⟩ : ∃ n4, F4.length = n4 := ⟨_, rfl⟩
      rw [e1] at r1 y1 hl1 ⊢
      rw [e2] at r2 y2 hl2 ⊢
      rw [e3] at r3 y3 hl3 ⊢
      rw [e4] at r4 y4 hl4 ⊢
      obtain ⟨d4, hd4⟩ : ∃ d4, check k v F4 = d4 := ⟨_, rfl⟩
      obtain ⟨d2, hd2⟩ : ∃ d2, check k v F2 = d2 := ⟨_, rfl⟩
      rw [hd4] at m4
      rw [hd2] at m2
      obtain ⟨w5, hw5⟩ : ∃ w5 : World, w5 = wr.alloc (.cells #[.int .i64 s.num, .int .i64 s.wire, .int .i64 s.since, .bool s.need, .bool s.many] 33) := ⟨_, rfl⟩
      obtain ⟨gs, hgs⟩ : ∃ gs, gs = wr.heap.size := ⟨_, rfl⟩
      have hk5 : Blk w5 gs 33 #[.int .i64 s.num, .int .i64 s.wire, .int .i64 s.since, .bool s.need, .bool s.many] := by rw [hw5, hgs]; exact Blk.new _ _ _
      have hb5 : Below wr.heap.size wr w5 := by rw [hw5]; exact (Below.refl _ _).alloc (Nat.le_refl _) _
      have hbw5 : Below w.heap.size w w5 := hbw2.trans ((hb.mono hs2).trans (hb5.mono (by omega)))
      have hs5 := hb5.size
      have hg5 := hk5.lt
      have R1 := Lib.hid ((r1.below hb5).more hs5)
      have R2 := Lib.hid ((r2.below hb5).more hs5)
      have R3 := Lib.hid ((r3.below hb5).more hs5)
      have R4 := Lib.hid ((r4.below hb5).more hs5)
      have HP1 := Lib.hid p1
      have HP2 := Lib.hid p2
      have HP3 := Lib.hid p3
      have HP4 := Lib.hid p4
      have HM1 := Lib.hid m1
      have HM2 := Lib.hid m2
      have HM3 := Lib.hid m3
      have HM4 := Lib.hid m4
      have HD2 := Lib.hid hd2
      have HD4 := Lib.hid hd4
      have HW5 := Lib.hid hw5
      have HGS := Lib.hid hgs
      clear ho1 ho2 ho3 ho4 p1 p2 p3 p4 m1 m2 m3 m4 hd2 hd4 hw5 hgs hF1 hF2 hF3 hF4 r1 r2 r3 r4 hs e1 e2 e3 e4 hgg hk
      go_upto_region 28 with fail
      rw [← HW5.out, ← HGS.out]
      go_wp2_with fail
      refine (check_rec k v _ n4 x4 F4 T4 w5 (by omega) (by omega) (by omega) (by omega) R4.out y4 z4 (by omega) HP4.out).mono ?_
      rintro e w6 ⟨rfl, hb6⟩
      rw [HD4.out]
      have hs6 := hb6.size
      have hbw6 : Below w.heap.size w w6 := hbw5.trans (hb6.mono hbw5.size)
      have S1 := Lib.hid ((R1.out.below hb6).more hs6)
      have S2 := Lib.hid ((R2.out.below hb6).more hs6)
      have S3 := Lib.hid ((R3.out.below hb6).more hs6)
      have hk6 := hk5.below hb6 hg5
      have hg6 := hk6.lt
      have u1 : w6.cell? ⟨gs, 1, none⟩ = some (.int .i64 s.wire) := hk6.cell 1
      have u3 : w6.cell? ⟨gs, 3, none⟩ = some (.bool s.need) := hk6.cell 3
      have u4 : w6.cell? ⟨gs, 4, none⟩ = some (.bool s.many) := hk6.cell 4
      clear hb6 hk6
      go_upto_region 29 with fail
      go_cut [21] (fun b wx => b = .bool true ∧ wx = w6)
      case first =>
        rcases HM4.out with ⟨a1, a2⟩ | ⟨a1, a2⟩
        · have b1 : (s.wire == 0) = true := by rw [beq_iff_eq]; exact a1
          subst a2
          go_wp2
          go_meet
          case rel => exact ⟨rfl, rfl⟩
        · have b1 : (s.wire == 0) = false := by rw [beq_eq_false_iff_ne]; omega
          have b2 : (s.wire == 2) = true := by rw [beq_iff_eq]; exact a1
          have b3 : ((d4 : Int) == 0) = s.many := by
            rw [← a2]
            by_cases h : d4 = 0
            · rw [h]; rfl
            · rw [decide_eq_false h, beq_eq_false_iff_ne]; omega
          go_wp2
          all_goals go_meet
          all_goals (try (case rel => exact ⟨by simp, rfl⟩))
      case rest =>
        obtain ⟨rfl, hwc⟩ := hcut
        have hwc := hwc.symm
        subst hwc
        have B3 := Lib.hid (show ((d2 : Int) == 0) = !s.need by
          rw [← HM2.out]
          by_cases h : d2 = 0
          · rw [h]; rfl
          · rw [decide_eq_false h, beq_eq_false_iff_ne]; omega)
        go_upto_region 30 with fail
        refine wp_region_grew (n := 153) (Say [(124, isv (.bool true)), (125, isv (.bool true)), (126, isv (.int .i64 k)), (127, isv (.int .i64 v)), (128, isv (.slice (some ⟨g1, 0, none⟩) n1 x1)), (129, isv (.int .i64 0)), (130, isv (.bool true)), (131, isv (.bool true)), (132, isv (.bool true)), (133, isv (.int .i64 k)), (134, isv (.int .i64 v)), (135, isv (.slice (some ⟨g2, 0, none⟩) n2' x2)), (136, isv (.int .i64 (d2 : Int))), (137, isv (.bool (!s.need))), (138, isv (.pointer (some ⟨gs, 3, none⟩))), (139, isv (.bool s.need)), (140, isv (.bool (!s.need))), (141, isv (.bool true)), (142, isv (.bool true)), (143, isv (.bool true)), (144, isv (.int .i64 k)), (145, isv (.int .i64 v)), (146, isv (.slice (some ⟨g3, 0, none⟩) n3 x3)), (147, isv (.int .i64 6)), (148, isv (.bool true)), (149, isv (.bool true)), (150, isv (.bool true)), (151, isv (.bool true)), (152, isv (.bool true)), (6, isv (.bool true))]) (by kernel_rfl) (by kernel_rfl) rfl ⟨?_, ?_, ?_, ?_, ?_, ?_, ?_, ?_, ?_, ?_, ?_, ?_, ?_, ?_, ?_, ?_, ?_, ?_, ?_, ?_, ?_, ?_, ?_, ?_, ?_, ?_, ?_, ?_, ?_, ?_, trivial⟩ ?_
        · exact owed_move rfl rfl (.inl rfl) fun fr w _ hK => known_out hK 7 (by kernel_rfl)
        · exact owed_move rfl rfl (.inl rfl) fun fr w _ hK => known_in hK 124 (by kernel_rfl)
        · exact owed_movew rfl rfl rfl (by kernel_rfl) (fun _ _ h => h) (.inl rfl) fun fr w _ hK => known_out hK 8 (by kernel_rfl)
        · exact owed_movew rfl rfl rfl (by kernel_rfl) (fun _ _ h => h) (.inl rfl) fun fr w _ hK => known_out hK 9 (by kernel_rfl)
        · exact owed_movew rfl rfl rfl (by kernel_rfl) (fun _ _ h => h) (.inl rfl) fun fr w _ hK => known_out hK 12 (by kernel_rfl)
        · refine owed_wanted rfl rfl rfl (by kernel_rfl) (fun _ _ h => h) fun fr w hC hK K hk => ?_
          have k126 : slot fr 126 = .int .i64 k := known_in hK 126 (by kernel_rfl)
          have k127 : slot fr 127 = .int .i64 v := known_in hK 127 (by kernel_rfl)
          have k128 : slot fr 128 = .slice (some ⟨g1, 0, none⟩) n1 x1 := known_in hK 128 (by kernel_rfl)
          clear hK
          unfold slot at k126 k127 k128
          go_simp
          refine (check_rec k v (some ⟨g1, 0, none⟩) n1 x1 F1 T1 w (by omega) (by omega) (by omega) (by omega) ((S1.out.below hC).more hC.size) y1 z1 (by omega) HP1.out).mono ?_
          rintro e w' ⟨rfl, hb⟩
          exact hk _ _ hb (by show Value.int .i64 _ = _; rw [HM1.out]; rfl)
        · refine owed_wval _ rfl rfl rfl (by kernel_rfl) (fun _ _ h => h) (fun _ => rfl) fun fr w hC hK => ?_
          have k129 : slot fr 129 = .int .i64 0 := known_in hK 129 (by kernel_rfl)
          clear hK
          unfold slot at k129
          go_simp
        · refine owed_val _ rfl rfl (fun _ => rfl) fun fr w hC hK => ?_
          have k125 : slot fr 125 = .bool true := known_in hK 125 (by kernel_rfl)
          have k130 : slot fr 130 = .bool true := known_in hK 130 (by kernel_rfl)
          clear hK
          unfold slot at k125 k130
          go_simp
        · exact owed_move rfl rfl (.inl rfl) fun fr w _ hK => known_in hK 131 (by kernel_rfl)
        · exact owed_movew rfl rfl rfl (by kernel_rfl) (fun _ _ h => h) (.inl rfl) fun fr w _ hK => known_out hK 8 (by kernel_rfl)
        · exact owed_movew rfl rfl rfl (by kernel_rfl) (fun _ _ h => h) (.inl rfl) fun fr w _ hK => known_out hK 9 (by kernel_rfl)
        · exact owed_movew rfl rfl rfl (by kernel_rfl) (fun _ _ h => h) (.inl rfl) fun fr w _ hK => known_out hK 13 (by kernel_rfl)
        · refine owed_wanted rfl rfl rfl (by kernel_rfl) (fun _ _ h => h) fun fr w hC hK K hk => ?_
          have k133 : slot fr 133 = .int .i64 k := known_in hK 133 (by kernel_rfl)
          have k134 : slot fr 134 = .int .i64 v := known_in hK 134 (by kernel_rfl)
          have k135 : slot fr 135 = .slice (some ⟨g2, 0, none⟩) n2' x2 := known_in hK 135 (by kernel_rfl)
          clear hK
          unfold slot at k133 k134 k135
          go_simp
          refine (check_rec k v (some ⟨g2, 0, none⟩) n2' x2 F2 T2 w (by omega) (by omega) (by omega) (by omega) ((S2.out.below hC).more hC.size) y2 z2 (by omega) HP2.out).mono ?_
          rintro e w' ⟨rfl, hb⟩
          exact hk _ _ hb (by show Value.int .i64 _ = _; rw [HD2.out])
        · refine owed_wval _ rfl rfl rfl (by kernel_rfl) (fun _ _ h => h) (fun _ => rfl) fun fr w hC hK => ?_
          have k136 : slot fr 136 = .int .i64 (d2 : Int) := known_in hK 136 (by kernel_rfl)
          clear hK
          unfold slot at k136
          have f1 := B3.out
          go_simp
        · refine owed_wval _ rfl rfl rfl (by kernel_rfl) (fun _ _ h => h) (fun _ => rfl) fun fr w hC hK => ?_
          have k19 : slot fr 19 = .pointer (some ⟨gs, 0, none⟩) := known_out hK 19 (by kernel_rfl)
          clear hK
          unfold slot at k19
          go_simp
        · refine owed_wval _ rfl rfl rfl (by kernel_rfl) (fun _ _ h => h) (fun _ => rfl) fun fr w hC hK => ?_
          have k138 : slot fr 138 = .pointer (some ⟨gs, 3, none⟩) := known_in hK 138 (by kernel_rfl)
          clear hK
          unfold slot at k138
          have f1 := (Below.cell hC (p := ⟨gs, 3, none⟩) hg6).trans u3
          go_simp
        · refine owed_wval _ rfl rfl rfl (by kernel_rfl) (fun _ _ h => h) (fun _ => rfl) fun fr w hC hK => ?_
          have k139 : slot fr 139 = .bool s.need := known_in hK 139 (by kernel_rfl)
          clear hK
          unfold slot at k139
          go_simp
        · refine owed_wval _ rfl rfl rfl (by kernel_rfl) (fun _ _ h => h) (fun _ => rfl) fun fr w hC hK => ?_
          have k137 : slot fr 137 = .bool (!s.need) := known_in hK 137 (by kernel_rfl)
          have k140 : slot fr 140 = .bool (!s.need) := known_in hK 140 (by kernel_rfl)
          clear hK
          unfold slot at k137 k140
          go_simp
        · refine owed_val _ rfl rfl (fun _ => rfl) fun fr w hC hK => ?_
          have k132 : slot fr 132 = .bool true := known_in hK 132 (by kernel_rfl)
          have k141 : slot fr 141 = .bool true := known_in hK 141 (by kernel_rfl)
          clear hK
          unfold slot at k132 k141
          go_simp
        · exact owed_move rfl rfl (.inl rfl) fun fr w _ hK => known_in hK 142 (by kernel_rfl)
        · exact owed_movew rfl rfl rfl (by kernel_rfl) (fun _ _ h => h) (.inl rfl) fun fr w _ hK => known_out hK 8 (by kernel_rfl)
        · exact owed_movew rfl rfl rfl (by kernel_rfl) (fun _ _ h => h) (.inl rfl) fun fr w _ hK => known_out hK 9 (by kernel_rfl)
        · exact owed_movew rfl rfl rfl (by kernel_rfl) (fun _ _ h => h) (.inl rfl) fun fr w _ hK => known_out hK 14 (by kernel_rfl)
        · refine owed_wanted rfl rfl rfl (by kernel_rfl) (fun _ _ h => h) fun fr w hC hK K hk => ?_
          have k144 : slot fr 144 = .int .i64 k := known_in hK 144 (by kernel_rfl)
          have k145 : slot fr 145 = .int .i64 v := known_in hK 145 (by kernel_rfl)
          have k146 : slot fr 146 = .slice (some ⟨g3, 0, none⟩) n3 x3 := known_in hK 146 (by kernel_rfl)
          clear hK
          unfold slot at k144 k145 k146
          go_simp
          refine (check_rec k v (some ⟨g3, 0, none⟩) n3 x3 F3 T3 w (by omega) (by omega) (by omega) (by omega) ((S3.out.below hC).more hC.size) y3 z3 (by omega) HP3.out).mono ?_
          rintro e w' ⟨rfl, hb⟩
          exact hk _ _ hb (by show Value.int .i64 _ = _; rw [HM3.out]; rfl)
        · refine owed_wval _ rfl rfl rfl (by kernel_rfl) (fun _ _ h => h) (fun _ => rfl) fun fr w hC hK => ?_
          have k147 : slot fr 147 = .int .i64 6 := known_in hK 147 (by kernel_rfl)
          clear hK
          unfold slot at k147
          go_simp
        · refine owed_val _ rfl rfl (fun _ => rfl) fun fr w hC hK => ?_
          have k143 : slot fr 143 = .bool true := known_in hK 143 (by kernel_rfl)
          have k148 : slot fr 148 = .bool true := known_in hK 148 (by kernel_rfl)
          clear hK
          unfold slot at k143 k148
          go_simp
        · exact owed_move rfl rfl (.inl rfl) fun fr w _ hK => known_in hK 149 (by kernel_rfl)
        · exact owed_movew rfl rfl rfl (by kernel_rfl) (fun _ _ h => h) (.inl rfl) fun fr w _ hK => known_out hK 21 (by kernel_rfl)
        · refine owed_val _ rfl rfl (fun _ => rfl) fun fr w hC hK => ?_
          have k150 : slot fr 150 = .bool true := known_in hK 150 (by kernel_rfl)
          have k151 : slot fr 151 = .bool true := known_in hK 151 (by kernel_rfl)
          clear hK
          unfold slot at k150 k151
          go_simp
        · exact owed_move rfl rfl (.inr rfl) fun fr w _ hK => known_in hK 152 (by kernel_rfl)
        intro fr w9 hg9 hgood
        have h6 : fr 6 = .bool true := hgood.2.2.2.2.2.2.2.2.2.2.2.2.2.2.2.2.2.2.2.2.2.2.2.2.2.2.2.2.2.1
        clear hgood
        have hbf := hbw6.trans (hg9.mono hbw6.size)
        simp only [putsOf]
        rw [h6]
        go_simp
        go_wp2
        go_ret
        exact ⟨rfl, hbf⟩
end Go.Proofs.Ytmcbifdfpaooaaa
