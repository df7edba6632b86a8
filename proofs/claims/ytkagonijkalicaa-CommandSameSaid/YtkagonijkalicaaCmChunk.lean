/-
  The walks of the landed command.Chunks, Unchunk.
-/
import Derived.Test.YtkagonijkalicaaCmRise
import Derived.Test.YtkagonijkalicaaCmUn
import Derived.Test.YtkagonijkalicaaMgF
import Derived.Test.YtkagonijkalicaaMgH
import Derived.Test.YtkagonijkalicaaMgA
set_option linter.unusedVariables false
set_option linter.unusedSimpArgs false
namespace Go.Proofs.Ytkagonijkalicaa
open Go.RowKit
open Cm (inR inR_iff Span riseGo riseGo_step row_rise row row_mem chunksB unchunk)
open Vi (put put_len put_byte put_int take taken take_any take_put take_back)

set_option maxHeartbeats 1000000 in
set_option maxRecDepth 100000 in
theorem chunks_c (A : Option Addr) (n c : Nat) (l : List Int) (w : World) (h : Rd w w.heap.size 1 A n (ivs l)) (hnc : n ≤ c) (hmax : c ≤ 9223372036854775807) (_hn : n ≤ 20000) (_hl : ∀ x ∈ l, I64 x) :
    Calls Try.prog 13 #[.slice A n c] w (NewPair w (chunksB l).1 ((chunksB l).2 : Nat)) := by
  obtain ⟨i0, hi, hz0, hz1, hz2⟩ := info_parts byte_info
  have hlen : l.length = n := by have := h.1; rw [ivs_len] at this; omega
  have hrr := row_rise l
  rw [hlen] at hrr
  obtain ⟨P, hP⟩ : ∃ P, chunksB l = P := ⟨_, rfl⟩
  rw [hP]
  have HP := Lib.hid hP
  have HRR := Lib.hid hrr
  have HR := Lib.hid h
  have HL := Lib.hid hlen
  clear h hlen hrr hP
  go_enter Try.func13, Try.ntmps13
  go_wp2_with fail
  refine (rowlen_any w).mono ?_
  rintro e w1 ⟨rfl, hb1⟩
  have hs1 := hb1.size
  go_wp2_with fail
  refine (holds_any ⟨1, 8⟩ (n : Int) w1).mono ?_
  rintro e w2 ⟨rfl, hb2⟩
  replace hb1 := hb1.trans (hb2.mono hs1)
  have hs2 := hb1.size
  clear hb2
  obtain ⟨B, hB⟩ : ∃ B, Cm.Span.holds ⟨1, 8⟩ (n : Int) = B := ⟨_, rfl⟩
  rw [hB]
  have hB2 : inR (n : Int) 1 8 = B := hB
  have hrr := HRR.out
  rw [hB2] at hrr
  clear hB hB2 HRR
  cases B with
  | false =>
    obtain rfl : P = ([], 1) := by rw [← HP.out]; unfold chunksB; rw [hrr]; rfl
    clear hrr
    go_wp2
    go_ret2
    exact ⟨_, rfl, World.ownsRow_nil _ _ _ _, hb1⟩
  | true =>
    rw [Bool.true_and] at hrr
    have HRR := Lib.hid hrr
    clear hrr
    go_wp2_with fail
    refine (rise_chunks A n c l w2 ((HR.out.below hb1).more hb1.size) hnc hmax).mono ?_
    rintro e w3 ⟨rfl, hb3⟩
    replace hb1 := hb1.trans (hb3.mono hs2)
    replace hs2 := hb1.size
    clear hb3
    rw [← HRR.out]
    cases hrow : row l with
    | false =>
      obtain rfl : P = ([], 1) := by rw [← HP.out]; unfold chunksB; rw [hrow]; rfl
      clear hrow HRR
      go_wp2
      go_ret2
      exact ⟨_, rfl, World.ownsRow_nil _ _ _ _, hb1⟩
    | true =>
      obtain rfl : P = (l.map Int.toNat, 0) := by rw [← HP.out]; unfold chunksB; rw [hrow]; rfl
      obtain ⟨L, hL⟩ : ∃ L, l.map Int.toNat = L := ⟨_, rfl⟩
      have HLL := Lib.hid hL
      have HLN := Lib.hid (show L.length = n by rw [← hL, List.length_map, HL.out])
      rw [hL]
      clear hL
      obtain ⟨hmem, h1, h8⟩ := row_mem hrow
      have HM := Lib.hid hmem
      rw [HL.out] at h1 h8
      clear hmem hrow HRR HP
      go_wp2
      go_loopw [4, 19] (fun v i wr => ∃ j : Nat, j ≤ n ∧ i = .int .i64 (j : Int) ∧ wr.ownsRow w.heap.size 5 1 v j (bvs (L.take j)) ∧ Below w.heap.size w wr) (fun _ i _ => n - (intOf i).toNat)
      case atStart => exact ⟨0, Nat.zero_le _, rfl, World.ownsRow_nil _ _ _ _, hb1⟩
      case round =>
        obtain ⟨j, hj, rfl, hown, hb⟩ := hrel
        have HO := Lib.hid hown
        have hsz := hb.size
        clear hown
        by_cases hlt : j < n
        · obtain ⟨ad, x, rfl, hab, hx, g0⟩ := (HR.out.below hb).int hlt
          obtain ⟨hx1, hx64⟩ := HM.out x (List.mem_of_getElem? hx)
          obtain ⟨k, rfl⟩ : ∃ k : Nat, x = (k : Int) := ⟨x.toNat, by omega⟩
          have HE := Lib.hid (show L.take (j + 1) = L.take j ++ [k] by rw [← HLL.out, List.take_add_one, List.getElem?_map, hx]; rfl)
          have t14 : IntKind.u64.wrap (k : Int) = (k : Int) := by rw [IntKind.wrap_u64]; omega
          have HP := Lib.hid (put_one (show k < 128 by omega))
          clear hx
          go_wp2_with fail
          refine (put_int (k : Int) wr (by omega) (by omega)).mono ?_
          rintro e w4 ⟨v2, rfl, hown2, hb2⟩
          rw [Int.toNat_natCast, HP.out] at hown2
          obtain ⟨A2, d2, rfl, hd2, hd22⟩ := slice_of_own hown2
          have hbw2 := hb.trans (hb2.mono hsz)
          have hsz2 := hbw2.size
          have HO2 := Lib.hid (own_below HO.out hb2)
          have HR2 := Lib.hid (Rd.of_own hown2)
          clear hown2 hb2
          go_wp2_with (at_builtin; refine wpList_append_rd _ rfl (.tmp 23) (.tmp 26) 25 rfl w.heap.size 5 i0 (.int .u8 0) 1 1 Try.underlying25 hi hz0 hz1 hz2 rfl (by decide) _ j _ rfl HO2.out w4.heap.size A2 1 d2 (bvs [k]) rfl HR2.out (bvs_one _) (by unfold maxLen; omega) (by omega) (by omega) ?_)
          intro v3 w5 hown3 hg3
          have hb3 : Below w.heap.size w w5 := hbw2.grown hg3 (by omega) (fun k hk => (HO2.out.lt k hk).1)
          clear hg3
          go_wp2
          go_roundw
          case rel => exact ⟨j + 1, by omega, by go_num, by rw [HE.out, bvs_app]; exact hown3, hb3⟩
          case measure => simp [intOf]; omega
        · obtain rfl : j = n := by omega
          have hown := HO.out
          rw [List.take_of_length_le (by have := HLN.out; omega)] at hown
          have HO2 := Lib.hid hown
          clear hown
          go_wp2
          go_ret2
          refine ⟨_, rfl, ?_, hb⟩
          rw [HLL.out, HLN.out]
          exact HO2.out

/-! ### Unchunk -/
theorem take_low {b : Nat} {r : List Nat} (h : b < 128) : take (b :: r) = (b, 1, 0) := by
  have h1 := take_put b r (by omega)
  rw [put_one h] at h1
  exact h1
theorem take_high {b : Nat} {r : List Nat} {x m : Nat} (hb : ∀ c ∈ b :: r, c < 256) (h : 128 ≤ b) (ht : take (b :: r) = (x, m, 0)) : 128 ≤ x := by
  rcases Nat.lt_or_ge x 128 with hx | hx
  · exfalso
    have h1 := take_back (b :: r) x m hb ht
    obtain ⟨_, h2, h3, h4⟩ := h1
    rw [put_one hx] at h4
    cases m with
    | zero => omega
    | succ m =>
      rw [List.take_succ_cons] at h4
      injection h4 with h4
      omega
  · exact hx

/-- What a number that was taken comes to, as an int. -/
def asInt (x : Nat) : Int := IntKind.i64.wrap (x : Int)
theorem asInt_wrap64 (x : Nat) : asInt x = wrap64 (x : Int) := by
  unfold asInt
  first | rfl | simp | (rw [IntKind.wrap_i64]; unfold wrap64; rfl) | (rw [IntKind.wrap_i64]; unfold wrap64; omega)
theorem asInt_high {x : Nat} (h : 128 ≤ x) (h2 : x < 18446744073709551616) (p : Int) (hp : 0 ≤ p) : (decide (p < asInt x) && decide (asInt x ≤ 64)) = false := by
  unfold asInt
  rw [IntKind.wrap_i64]
  rw [Bool.and_eq_false_iff, decide_eq_false_iff_not, decide_eq_false_iff_not]
  omega
theorem asInt_low {x : Nat} (h : x < 128) : asInt x = (x : Int) := by
  unfold asInt
  rw [IntKind.wrap_i64]; omega
def ints (bs : List Nat) : List Int := bs.map fun c : Nat => (c : Int)
theorem unchunk_ints (bs : List Nat) : unchunk bs = if inR (bs.length : Nat) 1 8 && riseGo 0 (ints bs) then (ints bs, 0) else ([], 6) := by
  unfold unchunk
  rw [row_rise, List.length_map]; rfl
/-- The way along the bytes: what is there at the k-th. -/
theorem rise_at {bs : List Nat} {k b : Nat} (h : bs[k]? = some b) (p : Int) : riseGo p (ints (bs.drop k)) = ((decide (p < (b : Int)) && decide ((b : Int) ≤ 64)) && riseGo (b : Int) (ints (bs.drop (k + 1)))) := by
  have h1 := riseGo_step (l := ints bs) (j := k) (x := (b : Int)) (by simp [ints, h]) p
  have e : ∀ j, (ints bs).drop j = ints (bs.drop j) := fun j => by unfold ints; rw [List.map_drop]
  rw [e, e] at h1
  exact h1

set_option maxHeartbeats 1000000 in
set_option maxRecDepth 100000 in
theorem unchunk_c (A : Option Addr) (n c : Nat) (bs : List Nat) (w : World) (hb : ∀ c ∈ bs, c < 256) (h : Rd w w.heap.size 1 A n (bvs bs)) (hnc : n ≤ c) (hmax : c ≤ 9223372036854775807) (hn : n ≤ 20000) :
    Calls Try.prog 15 #[.slice A n c] w fun e w' => ∃ v, e = .returned (.tuple #[v, .int .i64 ((unchunk bs).2 : Nat)]) ∧ NewNums w' (unchunk bs).1 v ∧ Below w.heap.size w w' := by
  obtain ⟨i0, hi, hz0, hz1, hz2⟩ := info_parts int_info
  obtain ⟨ib, hib, hbz0, hbz1, hbz2⟩ := info_parts byte_info
  have hlen : bs.length = n := by have := h.1; rw [bvs_len] at this; omega
  obtain ⟨P, hP⟩ : ∃ P, unchunk bs = P := ⟨_, rfl⟩
  rw [hP]
  rw [unchunk_ints, hlen] at hP
  have HP := Lib.hid hP
  have HR := Lib.hid h
  have HL := Lib.hid hlen
  have HB := Lib.hid hb
  clear h hlen hP hb
  go_enter Try.func15, Try.ntmps15
  go_wp2_with fail
  refine (risingc_any w).mono ?_
  rintro e w1 ⟨rfl, hb1, hs1, hg1⟩
  obtain ⟨g, hg⟩ : ∃ g, g = w.heap.size := ⟨_, rfl⟩
  rw [← hg] at hg1 ⊢
  have HG := Lib.hid hg
  have HG1 := Lib.hid hg1
  clear hg hg1
  unfold riseF
  go_wp2
  go_loopw [0, 5] (fun b v wr => ∃ (k : Nat) (A' : Option Addr) (c' : Nat) (p : Int), k ≤ n ∧ b = .slice A' (n - k) c' ∧ n - k ≤ c' ∧ c' ≤ 9223372036854775807 ∧ Rd w w.heap.size 1 A' (n - k) (bvs (bs.drop k)) ∧ wr.ownsRow (w.heap.size + 1) 3 1 v k (ivs (ints (bs.take k))) ∧ Blk wr g 3 #[.int .i64 p] ∧ 0 ≤ p ∧ riseGo 0 (ints bs) = riseGo p (ints (bs.drop k)) ∧ Below w.heap.size w wr ∧ w.heap.size < wr.heap.size) (fun b _ _ => (match b with | .slice _ m _ => m | _ => 0))
  case atStart => exact ⟨0, A, c, 0, Nat.zero_le _, rfl, hnc, hmax, HR.out, World.ownsRow_nil _ _ _ _, HG1.out, by omega, rfl, hb1, by omega⟩
  case round =>
    obtain ⟨k, A', c', p, hk, rfl, hc1, hc2, hrd, hown, hgr, hp0, hm, hb, hsz⟩ := hrel
    have HM := Lib.hid hm
    have HO := Lib.hid hown
    have HRD := Lib.hid hrd
    have HGR := Lib.hid hgr
    obtain ⟨M, hM⟩ : ∃ M, n - k = M := ⟨_, rfl⟩
    rw [hM] at hc1 HRD ⊢
    have hMn : M + k = n := by omega
    clear hm hown hrd hgr hM
    by_cases hlt : k < n
    · have hM0 : 0 < M := by omega
      obtain ⟨M', rfl⟩ : ∃ M', M = M' + 1 := ⟨M - 1, by omega⟩
      obtain ⟨b, hbk⟩ : ∃ b, bs[k]? = some b := ⟨bs[k]'(by have := HL.out; omega), List.getElem?_eq_getElem _⟩
      have hdrop : bs.drop k = b :: bs.drop (k + 1) := by
        rw [List.drop_eq_getElem_cons (by have := HL.out; omega)]
        rw [List.getElem?_eq_getElem (by have := HL.out; omega)] at hbk
        rw [Option.some.inj hbk]
      have hbd : ∀ c ∈ bs.drop k, c < 256 := fun c hc => HB.out c (List.mem_of_mem_drop hc)
      have HRA := Lib.hid (rise_at hbk p)
      have HTK := Lib.hid (show bs.take (k + 1) = bs.take k ++ [b] by rw [List.take_add_one, hbk]; rfl)
      have hb256 : b < 256 := HB.out b (List.mem_of_getElem? hbk)
      have HTA := Lib.hid (take_any A' (M' + 1) c' w.heap.size (bs.drop k) wr hbd (HRD.out.below hb) (by omega))
      by_cases hb128 : b < 128
      · have HT := Lib.hid (show taken (take (bs.drop k)) = .tuple #[.int .u64 (b : Int), .int .i64 1, .int .i64 0] by rw [hdrop, take_low hb128]; rfl)
        have t14 : IntKind.i64.wrap (b : Int) = (b : Int) := by rw [IntKind.wrap_i64]; omega
        have hsl : ∀ w : World, (Instr.sliceAt 25 (.slice A' (M' + 1) c') (some (.int .i64 1)) none none).run Try.prog w = .ok (.slice (cutAt A' c' 1 1) M' (c' - 1)) w := run_from (P := Try.prog) 25 5 ib 1 Try.underlying25 hib hbz1 A' (M' + 1) c' 1 .i64 hM0
        have hcut := HRD.out.bytes_from hM0 hc1
        rw [List.drop_drop, Nat.add_sub_cancel] at hcut
        have HCUT := Lib.hid hcut
        have HNX := Lib.hid (next_chunk g p (b : Int) wr HGR.out)
        obtain ⟨D, hD⟩ : ∃ D, (decide (p < (b : Int)) && decide ((b : Int) ≤ 64)) = D := ⟨_, rfl⟩
        rw [hD] at HNX HRA
        clear hdrop hbd hcut hbk
        generalize cutAt A' c' 1 1 = A2 at *
        go_wp2_with fail
        refine HTA.out.mono ?_
        rintro _ _ ⟨rfl, rfl⟩
        rw [HT.out]
        go_wp2_with fail
        refine HNX.out.mono ?_
        rintro _ w2 ⟨rfl, hb2, hs2, hg2, hgw⟩
        have hbw2 : Below w.heap.size w w2 := hb.trans (by rw [← HG.out]; exact hb2)
        have hown2 := HO.out.kept hgw (by
          cases hv : u5.ownBlock with
          | none => exact .inl rfl
          | some q => right; intro e; have := (HO.out.lt q hv).1; have := HG.out; injection e with e; omega)
        have HO2 := Lib.hid hown2
        cases D with
        | false =>
          obtain rfl : P = ([], 6) := by rw [← HP.out, HM.out, HRA.out]; simp
          go_wp2
          go_ret2
          exact ⟨_, rfl, ⟨none, 0, 0, rfl, Nat.le_refl _, by omega, rfl, Rd.nil _ _ _ _⟩, hbw2⟩
        | true =>
          rw [Bool.and_eq_true, decide_eq_true_eq, decide_eq_true_eq] at hD
          obtain ⟨hD1, hD2⟩ := hD
          have hsw2 : w.heap.size + 1 ≤ w2.heap.size := by omega
          have HG2 := Lib.hid hg2
          have HS2 := Lib.hid hs2
          clear hown2 hg2 hs2
          go_wp2_with (at_builtin; refine wpList_append_rd _ rfl (.tmp 28) (.tmp 31) 22 rfl (w.heap.size + 1) 3 i0 (.int .i64 0) 1 8 Try.underlying22 hi hz0 hz1 hz2 rfl (by decide) _ k _ rfl (HO2.out.alloc _) (w2.heap.size + 1) (some ⟨w2.heap.size, 0, none⟩) 1 1 [.int .i64 (b : Int)] rfl (rd_new w2 [.int .i64 (b : Int)] 3) (ivs_one [(b : Int)]) (by unfold maxLen; omega) (by omega) (by simp; omega) ?_)
          intro v3 w3 hown3 hg3
          have hne : some g ≠ u5.ownBlock := fun e => by have := (HO2.out.lt g e.symm).1; have := HG.out; omega
          have hb3 : Below w.heap.size w w3 := (hbw2.alloc hbw2.size _).grown hg3 (by simp; omega) (fun q hq => by have := (HO2.out.lt q hq).1; omega)
          have hgb : Blk w3 g 3 #[.int .i64 (b : Int)] := (hg3.block g (by simp; have := HG2.out.lt; omega) hne).trans (HG2.out.alloc _)
          have hs3 := hg3.size
          simp at hs3
          have HO3 := Lib.hid hown3
          have HGB := Lib.hid hgb
          clear hown3 hgb hg3 hne
          go_wp2
          go_roundw
          case rel =>
            refine ⟨k + 1, A2, c' - 1, (b : Int), by omega, by rw [show n - (k + 1) = M' by omega], by omega, by omega, ?_, ?_, HGB.out, by omega, ?_, hb3, by omega⟩
            · rw [show n - (k + 1) = M' by omega]; exact HCUT.out
            · rw [HTK.out, show ints (bs.take k ++ [b]) = ints (bs.take k) ++ [(b : Int)] by simp [ints], ivs_app]
              exact HO3.out
            · rw [HM.out, HRA.out, Bool.true_and]
          case measure => simp
      · have hb128 : 128 ≤ b := by omega
        obtain ⟨x, sz, er, hx⟩ : ∃ x sz er, take (bs.drop k) = (x, sz, er) := ⟨_, _, _, rfl⟩
        have hno : (decide (p < (b : Int)) && decide ((b : Int) ≤ 64)) = false := by rw [Bool.and_eq_false_iff, decide_eq_false_iff_not, decide_eq_false_iff_not]; omega
        obtain rfl : P = ([], 6) := by rw [← HP.out, HM.out, HRA.out, hno]; simp
        have hle := Tg.take_le hbd
        rw [hx] at hle
        obtain ⟨_, _, hx64, he3⟩ : sz ≤ 10 ∧ sz ≤ (bs.drop k).length ∧ x < 18446744073709551616 ∧ er ≤ 3 := hle
        have HT := Lib.hid (show taken (take (bs.drop k)) = .tuple #[.int .u64 (x : Int), .int .i64 (sz : Int), .int .i64 (er : Int)] by rw [hx]; rfl)
        by_cases he0 : er = 0
        · subst he0
          rw [hdrop] at hx
          have hxh := take_high (by rw [← hdrop]; exact hbd) hb128 hx
          have hwr := asInt_high hxh hx64 p hp0
          rw [asInt_wrap64] at hwr
          have HNX := Lib.hid (next_chunk g p (wrap64 (x : Int)) wr HGR.out)
          rw [hwr] at HNX
          clear hwr
          clear hdrop hbd hbk hx hno
          go_wp2_with fail
          refine HTA.out.mono ?_
          rintro _ _ ⟨rfl, rfl⟩
          rw [HT.out]
          go_wp2_with fail
          refine HNX.out.mono ?_
          rintro _ w2 ⟨rfl, hb2, hs2, hg2, hgw⟩
          have hbw2 : Below w.heap.size w w2 := hb.trans (by rw [← HG.out]; exact hb2)
          go_wp2
          go_ret2
          exact ⟨_, rfl, ⟨none, 0, 0, rfl, Nat.le_refl _, by omega, rfl, Rd.nil _ _ _ _⟩, hbw2⟩
        · have q : ((er : Int) != 0) = true := by rw [bne_iff_ne]; omega
          clear hdrop hbd hbk hx hno he0
          go_wp2_with fail
          refine HTA.out.mono ?_
          rintro _ _ ⟨rfl, rfl⟩
          rw [HT.out]
          go_wp2
          go_ret2
          exact ⟨_, rfl, ⟨none, 0, 0, rfl, Nat.le_refl _, by omega, rfl, Rd.nil _ _ _ _⟩, hb⟩
    · obtain rfl : k = n := by omega
      obtain rfl : M = 0 := by omega
      have hown := HO.out
      obtain ⟨A1, c1, rfl, hcc1, hcc2⟩ := slice_of_own hown
      have hrise : riseGo 0 (ints bs) = true := by rw [HM.out, List.drop_of_length_le (by have := HL.out; omega)]; rfl
      have hpp := HP.out
      rw [hrise, Bool.and_true] at hpp
      have hnn : NewNums wr (ints bs) (.slice A1 k c1) := by
        have h1 := hown
        rw [List.take_of_length_le (by have := HL.out; omega)] at h1
        have h2 : (ints bs).length = k := by unfold ints; rw [List.length_map]; exact HL.out
        rw [← h2] at h1 ⊢
        exact nums_of_own h1
      have HNN := Lib.hid hnn
      clear hnn hown hrise
      go_wp2_with fail
      refine (rowlen_any wr).mono ?_
      rintro e w2 ⟨rfl, hx2⟩
      go_wp2_with fail
      refine (holds_any ⟨1, 8⟩ (k : Int) w2).mono ?_
      rintro e w3 ⟨rfl, hx3⟩
      have hx23 := hx2.trans (hx3.mono hx2.size)
      have hbw3 := hb.trans (hx23.mono hb.size)
      obtain ⟨B, hB⟩ : ∃ B, Cm.Span.holds ⟨1, 8⟩ (k : Int) = B := ⟨_, rfl⟩
      rw [hB]
      rw [show inR (k : Int) 1 8 = B from hB] at hpp
      cases B with
      | false =>
        obtain rfl : P = ([], 6) := by rw [← hpp]; simp
        clear hpp
        go_wp2
        go_ret2
        exact ⟨_, rfl, ⟨none, 0, 0, rfl, Nat.le_refl _, by omega, rfl, Rd.nil _ _ _ _⟩, hbw3⟩
      | true =>
        obtain rfl : P = (ints bs, 0) := by rw [← hpp]; simp
        clear hpp
        go_wp2
        go_ret2
        exact ⟨_, rfl, HNN.out.below hx23, hbw3⟩
end Go.Proofs.Ytkagonijkalicaa
