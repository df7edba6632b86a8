/-
  The walk of the law on how many bytes a row has.
-/
import Derived.Test.YtpbhmhagailhfaaTlShown
import Derived.Test.YtpbhmhagailhfaaTlFew
namespace Go.Proofs.Ytpbhmhagailhfaa
open Go.RowKit
open Tl (Fel may flat putRow takeRow size size1)
open Vi (put put_len rput_int)

/-- What a field that came in holds. -/
def Fin (f : Fel) : Prop := f.wf ∧ -9223372036854775808 ≤ f.num ∧ f.num ≤ 9223372036854775807 ∧ -9223372036854775808 ≤ f.wire ∧ f.wire ≤ 9223372036854775807
theorem fewL_ok {l : List Fel} (h : ∀ f ∈ l, Fin f) : ∀ f ∈ fewL l, Fok f := by
  intro f hf
  unfold fewL at hf
  obtain ⟨i, hi, rfl⟩ := List.mem_mapIdx.1 hf
  have hg := h _ (List.mem_of_mem_take (List.getElem_mem hi))
  refine ⟨⟨hg.1.1, fun c hc => hg.1.2 c (List.mem_of_mem_take hc)⟩, hg.2.1, hg.2.2.1, hg.2.2.2.1, hg.2.2.2.2, ?_⟩
  simp only [cut1, List.length_take]
  split <;> omega
theorem size_snoc {l : List Fel} {k : Nat} {f : Fel} (h : l[k]? = some f) : size (l.take (k + 1)) = size (l.take k) + size1 f := by
  unfold size
  rw [List.take_add_one, h]
  simp
theorem size1_small (f : Fel) : size1 f ≤ 12 + f.b.length := by
  unfold size1
  have h2 := put_len f.n
  have h3 := put_len f.b.length
  split <;> split <;> omega

set_option maxHeartbeats 4000000 in
set_option maxRecDepth 100000 in
theorem long_any (A : Option Addr) (n c : Nat) (l : List Fel) (S : List (Option Addr × Nat)) (w : World) (h : RdF w w.heap.size A n l S) (hnc : n ≤ c) (hmax : c ≤ 9223372036854775807) (hw : ∀ f ∈ l, Fin f) :
    Calls Try.prog 8 #[.slice A n c] w fun e w' => e = .returned (.bool true) ∧ Below w.heap.size w w' := by
  have HR := Lib.hid h
  have hfl := fewL_len l
  have hln := h.1
  obtain ⟨lf, hlf⟩ : ∃ lf, fewL l = lf := ⟨_, rfl⟩
  obtain ⟨m, hm⟩ : ∃ m, lf.length = m := ⟨_, rfl⟩
  have hm60 : m ≤ 60 := by rw [← hm, ← hlf, hfl]; omega
  have hok := fewL_ok hw
  rw [hlf] at hok
  have hSl : (S.take 60).length = m := by rw [List.length_take, h.2.1, ← hm, ← hlf, hfl, hln]
  have HOK := Lib.hid hok
  have HLF := Lib.hid hlf
  have HM := Lib.hid hm
  have HSL := Lib.hid hSl
  have HP := Lib.hid (show putRow lf = if may lf ≠ 0 then ([], may lf) else (flat lf, 0) from rfl)
  have herr := Tl.may_err lf
  obtain ⟨er, her⟩ : ∃ er, may lf = er := ⟨_, rfl⟩
  rw [her] at herr
  have HER := Lib.hid her
  clear h hfl hln hlf hm hok hSl her hw
  go_enter Try.func8, Try.ntmps8
  go_wp2_with fail
  refine (tshown_any w).mono ?_
  rintro e w1 ⟨rfl, hb1⟩
  have hs1 := hb1.size
  go_wp2_with fail
  refine (few_any A n c l S w1 ((HR.out.below hb1).more hs1) hnc hmax).mono ?_
  rintro e w2 ⟨v2, rfl, hown2, hb2⟩
  rw [HLF.out, HM.out] at hown2
  have hbw2 := hb1.trans (hb2.mono hs1)
  obtain ⟨A2, c2, rfl, hc2, hc22, hr2⟩ := RdF.of_own hown2 HM.out HSL.out hb2.size (by
    intro k f s hf hs
    rw [← HLF.out] at hf
    exact fewL_rd ((HR.out.below hb1).more hs1) hb2 k f s hf hs)
  have HR2 := Lib.hid hr2
  clear hown2 hr2 hb1 hb2
  have hs2 := hbw2.size
  go_wp2_with fail
  refine (put_row A2 m c2 lf (S.take 60) w2 HR2.out hc2 hc22 (by omega) HOK.out).mono ?_
  rintro e w3 ⟨v3, rfl, hown3, hb3⟩
  have hbw3 := hbw2.trans (hb3.mono hs2)
  have HR3 := Lib.hid ((HR2.out.below hb3).more hb3.size)
  obtain ⟨A3, c3, rfl, hc3, hc32⟩ := slice_of_own hown3
  obtain ⟨bl, hbl⟩ : ∃ bl, (putRow lf).1.length = bl := ⟨_, rfl⟩
  obtain ⟨pe, hpe⟩ : ∃ pe, (putRow lf).2 = pe := ⟨_, rfl⟩
  have hfin : (er = 0 ∧ pe = 0 ∧ bl = size lf ∧ size lf ≤ 16384) ∨ (er ≠ 0 ∧ pe = er ∧ bl = 0 ∧ (er = 4 → 16384 < size lf ∨ 1 < m)) := by
    rw [← hbl, ← hpe, HP.out, HER.out]
    by_cases h0 : er = 0
    · subst h0
      have := Tl.may_long HER.out
      left
      simp
      omega
    · right
      refine ⟨h0, by rw [if_pos h0], by rw [if_pos h0]; rfl, fun h4 => ?_⟩
      subst h4
      have := Tl.may_big HER.out
      rwa [HM.out] at this
  rw [hbl] at hc3 ⊢
  rw [hpe]
  have HFIN := Lib.hid hfin
  clear hfin hown3 hb3 hbl hpe HP HER HR2 hbw2 hs2 hs1
  go_wp2
  go_loopw [6, 7] (fun x i wr => ∃ k : Nat, k ≤ m ∧ i = .int .i64 (k : Int) ∧ x = .int .i64 ((size (lf.take k) : Nat) : Int) ∧ size (lf.take k) ≤ 17012 * k ∧ Below w3.heap.size w3 wr) (fun _ i _ => m - (intOf i).toNat)
  case atStart => exact ⟨0, Nat.zero_le _, rfl, rfl, by simp [size], Below.refl _ _⟩
  case round =>
    obtain ⟨k, hk, rfl, rfl, hx, hb⟩ := hrel
    obtain ⟨z, hz⟩ : ∃ z, size (lf.take k) = z := ⟨_, rfl⟩
    rw [hz] at hx ⊢
    have HZ := Lib.hid hz
    clear hz
    have hsz := hb.size
    by_cases hlt : k < m
    · obtain ⟨ad, f, s, rfl, hab, hf, hs, g0, g1, g2, g3, hrd, hs1, hs2⟩ := (HR3.out.below hb).spell hlt
      obtain ⟨⟨hn64, hfb⟩, n0, n1, k0, k1, hb17⟩ := HOK.out f (List.mem_of_getElem? hf)
      have hsn := size_snoc hf
      have hsm := size1_small f
      have hsp : size1 f = (if 16 ≤ f.num then 1 else 0) + if f.wire = 0 then 1 + (put f.n).length else 1 + (put f.b.length).length + f.b.length := rfl
      rw [HZ.out] at hsn
      have HSN := Lib.hid hsn
      have HSP := Lib.hid hsp
      obtain ⟨gf, hgf⟩ : ∃ gf, gf = wr.heap.size := ⟨_, rfl⟩
      obtain ⟨w5, hw5⟩ : ∃ w5 : World, w5 = wr.alloc (.cells #[.int .i64 f.num, .int .i64 f.wire, .int .u64 (f.n : Int), .slice s.1 f.b.length s.2] 39) := ⟨_, rfl⟩
      have hk5 : Blk w5 gf 39 #[.int .i64 f.num, .int .i64 f.wire, .int .u64 (f.n : Int), .slice s.1 f.b.length s.2] := by rw [hw5, hgf]; exact Blk.new _ _ _
      have hb5 : Below wr.heap.size wr w5 := by rw [hw5]; exact (Below.refl _ _).alloc (Nat.le_refl _) _
      have hbw5 : Below w3.heap.size w3 w5 := hb.trans (hb5.mono hsz)
      have hlt5 := hk5.lt
      have HK5 := Lib.hid hk5
      have HW5 := Lib.hid hw5
      have HGF := Lib.hid hgf
      have z0 := hk5.cell 0
      have z1 := hk5.cell 1
      have z2 := hk5.cell 2
      have z3 := hk5.cell 3
      simp at z0 z1 z2 z3
      clear hk5 hw5 hgf hsn hsp hf hs hfb hrd
      go_upto_if 29 with fail
      rw [← HW5.out, ← HGF.out]
      obtain ⟨M, hM⟩ : ∃ M, (z + if 16 ≤ f.num then 1 else 0) = M := ⟨_, rfl⟩
      have hM2 : M ≤ z + 1 := by rw [← hM]; split <;> omega
      have HMM := Lib.hid hM
      clear hM g0 g1 g2 g3
      go_cut [6] (fun x wx => x = .int .i64 (M : Int) ∧ wx = w5)
      case first =>
        by_cases h16 : 16 ≤ f.num
        · have e := HMM.out
          rw [if_pos h16] at e
          have HE := Lib.hid e
          clear e
          go_wp2
          go_meet
          case rel => exact ⟨by rw [← HE.out]; go_num, rfl⟩
        · have e := HMM.out
          rw [if_neg h16] at e
          have HE := Lib.hid e
          clear e
          go_wp2
          go_meet
          case rel => exact ⟨by rw [← HE.out]; go_num, rfl⟩
      case rest =>
        obtain ⟨rfl, hwc⟩ := hcut
        have hwc := hwc.symm
        subst hwc
        have hszw5 := hbw5.size
        by_cases hw0 : f.wire = 0
        · have q : (f.wire == 0) = true := by rw [hw0]; rfl
          have e : z + size1 f = M + 1 + (put f.n).length := by rw [HSP.out, if_pos hw0, ← HMM.out]; omega
          have HE := Lib.hid e
          have hpl := put_len f.n
          clear hw0 e
          obtain ⟨PL, hPL⟩ : ∃ PL, (put f.n).length = PL := ⟨_, rfl⟩
          rw [hPL] at hpl
          have HPL := Lib.hid hPL
          clear hPL
          go_wp2_with fail
          refine (rput_int (f.n : Int) w5 (by omega) (by omega)).mono ?_
          rintro e w6 ⟨v6, rfl, hown6, hb6⟩
          rw [Int.toNat_natCast, HPL.out] at hown6
          obtain ⟨A6, c6, rfl, _, _⟩ := slice_of_own hown6
          have hbw6 : Below w3.heap.size w3 w6 := hbw5.trans (hb6.mono hszw5)
          clear hown6
          go_wp2
          go_roundw
          case rel =>
            refine ⟨k + 1, by omega, by go_num, ?_, by rw [HSN.out]; omega, hbw6⟩
            rw [HSN.out, HE.out, HPL.out]; go_num
          case measure => simp [intOf]; omega
        · have q : (f.wire == 0) = false := by rw [beq_eq_false_iff_ne]; exact hw0
          have e : z + size1 f = M + 1 + (put f.b.length).length + f.b.length := by rw [HSP.out, if_neg hw0, ← HMM.out]; omega
          have HE := Lib.hid e
          have hpl := put_len f.b.length
          clear hw0 e
          obtain ⟨PL, hPL⟩ : ∃ PL, (put f.b.length).length = PL := ⟨_, rfl⟩
          rw [hPL] at hpl
          have HPL := Lib.hid hPL
          clear hPL
          go_upto_region 13 with fail
          refine wp_region_grew (n := 99) (Say [(42, isv (.int .i64 (M : Int))), (43, isv (.int .i64 ((M : Int) + 1))), (44, isv (.pointer (some ⟨gf, 3, none⟩))), (45, isv (.slice s.1 f.b.length s.2)), (46, isv (.int .i64 (f.b.length : Int))), (47, isv (.int .u64 (f.b.length : Int))), (48, istxt (put f.b.length)), (49, isv (.int .i64 (PL : Int))), (50, isv (.int .i64 ((M : Int) + 1 + (PL : Int)))), (51, isv (.pointer (some ⟨gf, 3, none⟩))), (52, isv (.slice s.1 f.b.length s.2)), (53, isv (.int .i64 (f.b.length : Int))), (54, isv (.int .i64 ((M : Int) + 1 + (PL : Int) + (f.b.length : Int)))), (6, isv (.int .i64 ((M : Int) + 1 + (PL : Int) + (f.b.length : Int))))]) (by kernel_rfl) (by kernel_rfl) rfl ⟨?_, ?_, ?_, ?_, ?_, ?_, ?_, ?_, ?_, ?_, ?_, ?_, ?_, ?_, trivial⟩ ?_
          · exact owed_move rfl rfl (.inl rfl) fun fr w _ hK => known_out hK 6 (by kernel_rfl)
          · refine owed_val _ rfl rfl (fun _ => rfl) fun fr w hC hK => ?_
            have k42 : slot fr 42 = .int .i64 (M : Int) := known_in hK 42 (by kernel_rfl)
            clear hK
            unfold slot at k42
            have f1 : IntKind.i64.wrap ((M : Int) + 1) = (M : Int) + 1 := by rw [IntKind.wrap_i64]; omega
            go_simp
          · refine owed_val _ rfl rfl (fun _ => rfl) fun fr w hC hK => ?_
            have k8 : slot fr 8 = .pointer (some ⟨gf, 0, none⟩) := known_out hK 8 (by kernel_rfl)
            clear hK
            unfold slot at k8
            go_simp
          · refine owed_val _ rfl rfl (fun _ => rfl) fun fr w hC hK => ?_
            have k44 : slot fr 44 = .pointer (some ⟨gf, 3, none⟩) := known_in hK 44 (by kernel_rfl)
            clear hK
            unfold slot at k44
            have hk := Blk.below HK5.out hC hlt5
            have x3 := hk.cell 3
            simp at x3
            go_simp
          · refine owed_val _ rfl rfl (fun _ => rfl) fun fr w hC hK => ?_
            have k45 : slot fr 45 = .slice s.1 f.b.length s.2 := known_in hK 45 (by kernel_rfl)
            clear hK
            unfold slot at k45
            go_simp
          · refine owed_val _ rfl rfl (fun _ => rfl) fun fr w hC hK => ?_
            have k46 : slot fr 46 = .int .i64 (f.b.length : Int) := known_in hK 46 (by kernel_rfl)
            clear hK
            unfold slot at k46
            have f1 : IntKind.u64.wrap (f.b.length : Int) = (f.b.length : Int) := by rw [IntKind.wrap_u64]; omega
            go_simp
          · refine owed_plain rfl rfl fun fr w hC hK K hk => ?_
            have k47 : slot fr 47 = .int .u64 (f.b.length : Int) := known_in hK 47 (by kernel_rfl)
            clear hK
            unfold slot at k47
            go_simp
            refine (rput_int (f.b.length : Int) w (by omega) (by omega)).mono ?_
            rintro e w' ⟨v, rfl, hown, hb⟩
            exact hk _ _ hb (by rw [Int.toNat_natCast] at hown; exact Txt.of_new hown)
          · refine owed_val _ rfl rfl (fun _ => rfl) fun fr w hC hK => ?_
            obtain ⟨A48, n48, c48, k48, r48⟩ : Txt (put f.b.length) (slot fr 48) w := known_in hK 48 (by kernel_rfl)
            clear hK
            unfold slot at k48
            have f1 : n48 = PL := by have := r48.1; rw [bvs_len] at this; have := HPL.out; omega
            subst f1
            go_simp
          · refine owed_val _ rfl rfl (fun _ => rfl) fun fr w hC hK => ?_
            have k43 : slot fr 43 = .int .i64 ((M : Int) + 1) := known_in hK 43 (by kernel_rfl)
            have k49 : slot fr 49 = .int .i64 (PL : Int) := known_in hK 49 (by kernel_rfl)
            clear hK
            unfold slot at k43 k49
            have f1 : IntKind.i64.wrap ((M : Int) + 1 + (PL : Int)) = (M : Int) + 1 + (PL : Int) := by rw [IntKind.wrap_i64]; omega
            go_simp
          · refine owed_val _ rfl rfl (fun _ => rfl) fun fr w hC hK => ?_
            have k8 : slot fr 8 = .pointer (some ⟨gf, 0, none⟩) := known_out hK 8 (by kernel_rfl)
            clear hK
            unfold slot at k8
            go_simp
          · refine owed_val _ rfl rfl (fun _ => rfl) fun fr w hC hK => ?_
            have k51 : slot fr 51 = .pointer (some ⟨gf, 3, none⟩) := known_in hK 51 (by kernel_rfl)
            clear hK
            unfold slot at k51
            have hk := Blk.below HK5.out hC hlt5
            have x3 := hk.cell 3
            simp at x3
            go_simp
          · refine owed_val _ rfl rfl (fun _ => rfl) fun fr w hC hK => ?_
            have k52 : slot fr 52 = .slice s.1 f.b.length s.2 := known_in hK 52 (by kernel_rfl)
            clear hK
            unfold slot at k52
            go_simp
          · refine owed_val _ rfl rfl (fun _ => rfl) fun fr w hC hK => ?_
            have k50 : slot fr 50 = .int .i64 ((M : Int) + 1 + (PL : Int)) := known_in hK 50 (by kernel_rfl)
            have k53 : slot fr 53 = .int .i64 (f.b.length : Int) := known_in hK 53 (by kernel_rfl)
            clear hK
            unfold slot at k50 k53
            have f1 : IntKind.i64.wrap ((M : Int) + 1 + (PL : Int) + (f.b.length : Int)) = (M : Int) + 1 + (PL : Int) + (f.b.length : Int) := by rw [IntKind.wrap_i64]; omega
            go_simp
          · exact owed_move rfl rfl (.inr rfl) fun fr w _ hK => known_in hK 54 (by kernel_rfl)
          intro vs w' hg hgood
          have h6 : vs 6 = .int .i64 ((M : Int) + 1 + (PL : Int) + (f.b.length : Int)) := hgood.2.2.2.2.2.2.2.2.2.2.2.2.2.1
          clear hgood
          have hbw6 : Below w3.heap.size w3 w' := hbw5.trans (hg.mono hszw5)
          simp only [putsOf]
          rw [h6]
          go_simp
          go_wp2
          go_roundw
          case rel =>
            refine ⟨k + 1, by omega, by go_num, ?_, by rw [HSN.out]; omega, hbw6⟩
            rw [HSN.out, HE.out, HPL.out]; go_num
          case measure => simp [intOf]; omega
    · obtain rfl : k = m := by omega
      have hz2 : size lf = z := by
        have := HZ.out
        rwa [List.take_of_length_le (by have := HM.out; omega)] at this
      have hfin := HFIN.out
      rw [hz2] at hfin
      have hbw := hbw3.trans (hb.mono hbw3.size)
      clear hz2
      rcases hfin with ⟨rfl, rfl, rfl, h4⟩ | ⟨h1, rfl, rfl, h4⟩
      · go_wp2
        go_ret
        exact ⟨by first | rfl | (simp; omega), hbw⟩
      · rcases herr with h0 | rfl | rfl | rfl
        · exact absurd h0 h1
        · go_wp2
          go_ret
          exact ⟨by first | rfl | (simp; omega), hbw⟩
        · go_wp2
          go_ret
          exact ⟨by first | rfl | (simp; omega), hbw⟩
        · rcases h4 rfl with h5 | h5
          · go_wp2
            go_ret
            exact ⟨by first | rfl | (simp; omega), hbw⟩
          · by_cases h6 : 16384 < z
            · go_wp2
              go_ret
              exact ⟨by first | rfl | (simp; omega), hbw⟩
            · go_wp2
              go_ret
              exact ⟨by first | rfl | (simp; omega), hbw⟩
end Go.Proofs.Ytpbhmhagailhfaa
