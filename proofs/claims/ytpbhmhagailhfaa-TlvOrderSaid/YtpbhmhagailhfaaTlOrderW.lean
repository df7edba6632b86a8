/-
  The walk of the law on rows whose fields do not rise.
-/
import Derived.Test.YtpbhmhagailhfaaTlPartsW
import Derived.Deep.DeepCutAuto
namespace Go.Proofs.Ytpbhmhagailhfaa
open Go.RowKit
open Tl (Fel may flat putRow takeRow fit falls)
open Tg (okTag okTag_iff)

def zeroF : Fel := ⟨0, 0, 0, []⟩
theorem few_two (a : Fel) : fewL [zeroF, a] = [zeroF, cut1 1 a] := rfl
/-- A row of two that was just laid down: nothing, and a field. -/
theorem rdf_two (w : World) (a : Fel) (s : Option Addr × Nat) (hr : Rd w w.heap.size 1 s.1 a.b.length (bvs a.b)) (h1 : a.b.length ≤ s.2) (h2 : s.2 ≤ 9223372036854775807) :
    RdF (w.alloc (.cells #[.int .i64 0, .int .i64 0, .int .u64 0, .slice none 0 0, .int .i64 a.num, .int .i64 a.wire, .int .u64 (a.n : Int), .slice s.1 a.b.length s.2] 39)) (w.heap.size + 1) (some ⟨w.heap.size, 0, none⟩) 2 [zeroF, a] [(none, 0), s] := by
  have := rdf_new w [zeroF, a] [(none, 0), s] 39 rfl fun k f t hf ht => by
    match k, hf, ht with
    | 0, hf, ht => simp at hf ht; subst hf ht; exact ⟨Rd.nil _ _ _ _, by simp [zeroF], by simp⟩
    | 1, hf, ht => simp at hf ht; subst hf ht; exact ⟨hr, h1, h2⟩
    | k + 2, hf, ht => simp at hf
  exact this
theorem rdf_one (w : World) (a : Fel) (s : Option Addr × Nat) (hr : Rd w w.heap.size 1 s.1 a.b.length (bvs a.b)) (h1 : a.b.length ≤ s.2) (h2 : s.2 ≤ 9223372036854775807) :
    RdF (w.alloc (.cells #[.int .i64 a.num, .int .i64 a.wire, .int .u64 (a.n : Int), .slice s.1 a.b.length s.2] 39)) (w.heap.size + 1) (some ⟨w.heap.size, 0, none⟩) 1 [a] [s] := by
  have := rdf_new w [a] [s] 39 rfl fun k f t hf ht => by
    match k, hf, ht with
    | 0, hf, ht => simp at hf ht; subst hf ht; exact ⟨hr, h1, h2⟩
    | k + 1, hf, ht => simp at hf
  exact this
theorem rdf_pair (w : World) (a b : Fel) (s t : Option Addr × Nat) (hr : Rd w w.heap.size 1 s.1 a.b.length (bvs a.b)) (h1 : a.b.length ≤ s.2) (h2 : s.2 ≤ 9223372036854775807) (hr' : Rd w w.heap.size 1 t.1 b.b.length (bvs b.b)) (h1' : b.b.length ≤ t.2) (h2' : t.2 ≤ 9223372036854775807) :
    RdF (w.alloc (.cells #[.int .i64 a.num, .int .i64 a.wire, .int .u64 (a.n : Int), .slice s.1 a.b.length s.2, .int .i64 b.num, .int .i64 b.wire, .int .u64 (b.n : Int), .slice t.1 b.b.length t.2] 39)) (w.heap.size + 1) (some ⟨w.heap.size, 0, none⟩) 2 [a, b] [s, t] := by
  have := rdf_new w [a, b] [s, t] 39 rfl fun k f u hf hu => by
    match k, hf, hu with
    | 0, hf, hu => simp at hf hu; subst hf hu; exact ⟨hr, h1, h2⟩
    | 1, hf, hu => simp at hf hu; subst hf hu; exact ⟨hr', h1', h2'⟩
    | k + 2, hf, hu => simp at hf
  exact this
theorem cut1_ok {a : Fel} (h : Fin a) : Fok (cut1 1 a) ∧ (cut1 1 a).b.length ≤ 300 := by
  have h3 : (cut1 1 a).b.length ≤ 300 := by simp [cut1, List.length_take]; omega
  exact ⟨⟨⟨h.1.1, fun c hc => h.1.2 c (List.mem_of_mem_take hc)⟩, h.2.1, h.2.2.1, h.2.2.2.1, h.2.2.2.2, by omega⟩, h3⟩

set_option maxHeartbeats 4000000 in
set_option maxRecDepth 100000 in
theorem order_any (a b : Fel) (s t : Option Addr × Nat) (w : World) (ha : Fin a) (hb : Fin b) (hra : Rd w w.heap.size 1 s.1 a.b.length (bvs a.b)) (ha1 : a.b.length ≤ s.2) (ha2 : s.2 ≤ 9223372036854775807)
    (hrb : Rd w w.heap.size 1 t.1 b.b.length (bvs b.b)) (hb1 : b.b.length ≤ t.2) (hb2 : t.2 ≤ 9223372036854775807) :
    Calls Try.prog 6 #[aggOf a s, aggOf b t] w fun e w' => e = .returned (.bool true) ∧ Below w.heap.size w w' := by
  unfold aggOf
  obtain ⟨hx, hx3⟩ := cut1_ok ha
  obtain ⟨hy, hy3⟩ := cut1_ok hb
  obtain ⟨x, hxe⟩ : ∃ x, cut1 1 a = x := ⟨_, rfl⟩
  obtain ⟨y, hye⟩ : ∃ y, cut1 1 b = y := ⟨_, rfl⟩
  rw [hxe] at hx hx3
  rw [hye] at hy hy3
  have HX := Lib.hid hx
  have HY := Lib.hid hy
  have HXE := Lib.hid hxe
  have HYE := Lib.hid hye
  obtain ⟨w0, hw0⟩ : ∃ w0 : World, w0 = (w.alloc (.cells #[.int .i64 a.num, .int .i64 a.wire, .int .u64 (a.n : Int), .slice s.1 a.b.length s.2] 39)).alloc (.cells #[.int .i64 b.num, .int .i64 b.wire, .int .u64 (b.n : Int), .slice t.1 b.b.length t.2] 39) := ⟨_, rfl⟩
  have hka : Blk w0 w.heap.size 39 #[.int .i64 a.num, .int .i64 a.wire, .int .u64 (a.n : Int), .slice s.1 a.b.length s.2] := by rw [hw0]; exact (Blk.new _ _ _).alloc _
  have hkb : Blk w0 (w.heap.size + 1) 39 #[.int .i64 b.num, .int .i64 b.wire, .int .u64 (b.n : Int), .slice t.1 b.b.length t.2] := by
    rw [hw0]
    have := Blk.new (w.alloc (.cells #[.int .i64 a.num, .int .i64 a.wire, .int .u64 (a.n : Int), .slice s.1 a.b.length s.2] 39)) #[.int .i64 b.num, .int .i64 b.wire, .int .u64 (b.n : Int), .slice t.1 b.b.length t.2] 39
    simpa using this
  have hb0 : Below w.heap.size w w0 := by rw [hw0]; exact ((Below.refl _ _).alloc (Nat.le_refl _) _).alloc (by simp) _
  have hs0 : w0.heap.size = w.heap.size + 2 := by rw [hw0]; simp
  have HRA := Lib.hid ((hra.below hb0).more hb0.size)
  have HRB := Lib.hid ((hrb.below hb0).more hb0.size)
  have HKA := Lib.hid hka
  have HKB := Lib.hid hkb
  have HW0 := Lib.hid hw0
  have hlt0 : w.heap.size < w0.heap.size := by omega
  have hlt1 : w.heap.size + 1 < w0.heap.size := by omega
  clear hra hrb hka hkb hw0 hs0 hx hy hxe hye
  go_enter Try.func6, Try.ntmps6
  go_wp2_with fail
  rw [← HW0.out]
  refine (tshown_any w0).mono ?_
  rintro e w1 ⟨rfl, hb1'⟩
  have hbww1 := hb0.trans (hb1'.mono (Nat.le_of_lt hlt0))
  have hka1 := HKA.out.below hb1' hlt0
  have hkb1 := HKB.out.below hb1' hlt1
  have HRA1 := Lib.hid ((HRA.out.below hb1').more hb1'.size)
  have HRB1 := Lib.hid ((HRB.out.below hb1').more hb1'.size)
  have HKA1 := Lib.hid hka1
  have HKB1 := Lib.hid hkb1
  have hlt0' := hka1.lt
  have hlt1' := hkb1.lt
  clear hka1 hkb1 HRA HRB HKA HKB HW0 hb0 hb1' hlt0 hlt1
  have k0 := HKA1.out.cell 0
  have k1 := HKA1.out.cell 1
  have k2 := HKA1.out.cell 2
  have k3 := HKA1.out.cell 3
  simp at k0 k1 k2 k3
  obtain ⟨wax, hwa⟩ : ∃ wa : World, wa = w1.alloc (.cells #[.int .i64 0, .int .i64 0, .int .u64 0, .slice none 0 0, .int .i64 a.num, .int .i64 a.wire, .int .u64 (a.n : Int), .slice s.1 a.b.length s.2] 39) := ⟨_, rfl⟩
  have hrow := rdf_two w1 a s HRA1.out ha1 ha2
  have hsa : wax.heap.size = w1.heap.size + 1 := by rw [hwa]; simp
  have hba : Below w1.heap.size w1 wax := by rw [hwa]; exact (Below.refl _ _).alloc (Nat.le_refl _) _
  rw [← hwa, ← hsa] at hrow
  have hfew := few_row _ 2 2 _ _ wax hrow (Nat.le_refl _) (by omega) 2 rfl
  rw [few_two, HXE.out] at hfew
  have HF := Lib.hid hfew
  have HWA := Lib.hid hwa
  clear hrow hfew hwa
  go_wp2_with fail
  rw [← HWA.out]
  refine HF.out.mono ?_
  rintro e wfx ⟨Ax, cx, rfl, hcx, hcx2, hrx, _, hfx⟩
  have hbxf : Below w1.heap.size w1 wfx := hba.trans (hfx.mono hba.size)
  obtain ⟨adx, vx, sx, rfl, hadx, hvx, hstx, g0, g1, g2, g3, hrdx, hlx, hmx⟩ := hrx.spell (show 1 < 2 by omega)
  obtain rfl : x = vx := by simpa using hvx
  replace g0 : wfx.cell? ⟨adx.block, adx.off + 4, none⟩ = some (.int .i64 x.num) := g0
  replace g1 : wfx.cell? ⟨adx.block, adx.off + 4 + 1, none⟩ = some (.int .i64 x.wire) := g1
  replace g2 : wfx.cell? ⟨adx.block, adx.off + 4 + 2, none⟩ = some (.int .u64 (x.n : Int)) := g2
  replace g3 : wfx.cell? ⟨adx.block, adx.off + 4 + 3, none⟩ = some (.slice sx.1 x.b.length sx.2) := g3
  obtain ⟨w4, hw4⟩ : ∃ w' : World, w' = wfx.alloc (.cells #[.int .i64 x.num, .int .i64 x.wire, .int .u64 (x.n : Int), .slice sx.1 x.b.length sx.2] 39) := ⟨_, rfl⟩
  obtain ⟨gx, hgx⟩ : ∃ gx, gx = wfx.heap.size := ⟨_, rfl⟩
  have hkx : Blk w4 gx 39 #[.int .i64 x.num, .int .i64 x.wire, .int .u64 (x.n : Int), .slice sx.1 x.b.length sx.2] := by rw [hw4, hgx]; exact Blk.new _ _ _
  have hnx : Below wfx.heap.size wfx w4 := by rw [hw4]; exact (Below.refl _ _).alloc (Nat.le_refl _) _
  have hst : Below w1.heap.size w1 w4 := hbxf.trans (hnx.mono hbxf.size)
  have HRDx := Lib.hid ((hrdx.below hnx).more hnx.size)
  have HKx := Lib.hid hkx
  have hltx := hkx.lt
  have HNx := Lib.hid hw4
  have HGx := Lib.hid hgx
  have hbww4 := hbww1.trans (hst.mono hbww1.size)
  replace HKB1 := Lib.hid (HKB1.out.below hst hlt1')
  replace hlt1' := HKB1.out.lt
  replace HRB1 := Lib.hid ((HRB1.out.below hst).more hst.size)
  clear hkx hw4 hgx hrx hrdx hfx hbxf hnx hba hst HF HWA k0 k1 k2 k3 hvx hstx hsa
  go_upto_region 3 with fail
  rw [← HNx.out, ← HGx.out]
  have k0 := HKB1.out.cell 0
  have k1 := HKB1.out.cell 1
  have k2 := HKB1.out.cell 2
  have k3 := HKB1.out.cell 3
  simp at k0 k1 k2 k3
  obtain ⟨way, hwa⟩ : ∃ wa : World, wa = w4.alloc (.cells #[.int .i64 0, .int .i64 0, .int .u64 0, .slice none 0 0, .int .i64 b.num, .int .i64 b.wire, .int .u64 (b.n : Int), .slice t.1 b.b.length t.2] 39) := ⟨_, rfl⟩
  have hrow := rdf_two w4 b t HRB1.out hb1 hb2
  have hsa : way.heap.size = w4.heap.size + 1 := by rw [hwa]; simp
  have hba : Below w4.heap.size w4 way := by rw [hwa]; exact (Below.refl _ _).alloc (Nat.le_refl _) _
  rw [← hwa, ← hsa] at hrow
  have hfew := few_row _ 2 2 _ _ way hrow (Nat.le_refl _) (by omega) 2 rfl
  rw [few_two, HYE.out] at hfew
  have HF := Lib.hid hfew
  have HWA := Lib.hid hwa
  clear hrow hfew hwa
  go_wp2_with fail
  rw [← HWA.out]
  refine HF.out.mono ?_
  rintro e wfy ⟨Ay, cy, rfl, hcy, hcy2, hry, _, hfy⟩
  have hbyf : Below w4.heap.size w4 wfy := hba.trans (hfy.mono hba.size)
  obtain ⟨ady, vy, sy, rfl, hady, hvy, hsty, g0, g1, g2, g3, hrdy, hly, hmy⟩ := hry.spell (show 1 < 2 by omega)
  obtain rfl : y = vy := by simpa using hvy
  replace g0 : wfy.cell? ⟨ady.block, ady.off + 4, none⟩ = some (.int .i64 y.num) := g0
  replace g1 : wfy.cell? ⟨ady.block, ady.off + 4 + 1, none⟩ = some (.int .i64 y.wire) := g1
  replace g2 : wfy.cell? ⟨ady.block, ady.off + 4 + 2, none⟩ = some (.int .u64 (y.n : Int)) := g2
  replace g3 : wfy.cell? ⟨ady.block, ady.off + 4 + 3, none⟩ = some (.slice sy.1 y.b.length sy.2) := g3
  obtain ⟨w7, hw7⟩ : ∃ w' : World, w' = wfy.alloc (.cells #[.int .i64 y.num, .int .i64 y.wire, .int .u64 (y.n : Int), .slice sy.1 y.b.length sy.2] 39) := ⟨_, rfl⟩
  obtain ⟨gy, hgy⟩ : ∃ gy, gy = wfy.heap.size := ⟨_, rfl⟩
  have hky : Blk w7 gy 39 #[.int .i64 y.num, .int .i64 y.wire, .int .u64 (y.n : Int), .slice sy.1 y.b.length sy.2] := by rw [hw7, hgy]; exact Blk.new _ _ _
  have hny : Below wfy.heap.size wfy w7 := by rw [hw7]; exact (Below.refl _ _).alloc (Nat.le_refl _) _
  have hst : Below w4.heap.size w4 w7 := hbyf.trans (hny.mono hbyf.size)
  have HRDy := Lib.hid ((hrdy.below hny).more hny.size)
  have HKy := Lib.hid hky
  have hlty := hky.lt
  have HNy := Lib.hid hw7
  have HGy := Lib.hid hgy
  have hbww7 := hbww4.trans (hst.mono hbww4.size)
  replace HKx := Lib.hid (HKx.out.below hst hltx)
  replace hltx := HKx.out.lt
  replace HRDx := Lib.hid ((HRDx.out.below hst).more hst.size)
  clear hky hw7 hgy hry hrdy hfy hbyf hny hba hst HF HWA k0 k1 k2 k3 hvy hsty hsa
  go_upto_region 4 with fail
  rw [← HNy.out, ← HGy.out]
  obtain ⟨Fx, hFx⟩ : ∃ Fx, fit x = Fx := ⟨_, rfl⟩
  obtain ⟨Fy, hFy⟩ : ∃ Fy, fit y = Fy := ⟨_, rfl⟩
  have HFx := Lib.hid hFx
  have HFy := Lib.hid hFy
  obtain ⟨ox, hox⟩ : ∃ ox : Nat, (if Fx = true then 0 else 1) = ox := ⟨_, rfl⟩
  obtain ⟨oy, hoy⟩ : ∃ oy : Nat, (if Fy = true then 0 else 1) = oy := ⟨_, rfl⟩
  have HOx := Lib.hid hox
  have HOy := Lib.hid hoy
  clear hFx hFy hox hoy
  have k0 := HKx.out.cell 0
  have k1 := HKx.out.cell 1
  have k2 := HKx.out.cell 2
  have k3 := HKx.out.cell 3
  simp at k0 k1 k2 k3
  obtain ⟨wa, hwa⟩ : ∃ wa : World, wa = w7.alloc (.cells #[.int .i64 x.num, .int .i64 x.wire, .int .u64 (x.n : Int), .slice sx.1 x.b.length sx.2] 39) := ⟨_, rfl⟩
  have hrow := rdf_one w7 x sx HRDx.out hlx hmx
  have hsa : wa.heap.size = w7.heap.size + 1 := by rw [hwa]; simp
  have hba : Below w7.heap.size w7 wa := by rw [hwa]; exact (Below.refl _ _).alloc (Nat.le_refl _) _
  rw [← hwa, ← hsa] at hrow
  have hmay := may_row _ 1 1 _ _ wa hrow (Nat.le_refl _) (by omega) (by omega) (by intro f hf; simp at hf; subst hf; exact HX.out)
  rw [Tl.may_one hx3, HFx.out, HOx.out] at hmay
  have HF := Lib.hid hmay
  have HWA := Lib.hid hwa
  clear hrow hmay hwa
  go_wp2_with fail
  rw [← HWA.out]
  refine HF.out.mono ?_
  rintro e w9 ⟨rfl, hf⟩
  have hst : Below w7.heap.size w7 w9 := hba.trans (hf.mono hba.size)
  have hbww9 := hbww7.trans (hst.mono hbww7.size)
  replace HKx := Lib.hid (HKx.out.below hst hltx)
  replace hltx := HKx.out.lt
  replace HRDx := Lib.hid ((HRDx.out.below hst).more hst.size)
  replace HKy := Lib.hid (HKy.out.below hst hlty)
  replace hlty := HKy.out.lt
  replace HRDy := Lib.hid ((HRDy.out.below hst).more hst.size)
  clear hf hba hst HF HWA k0 k1 k2 k3 hsa
  have k0 := HKy.out.cell 0
  have k1 := HKy.out.cell 1
  have k2 := HKy.out.cell 2
  have k3 := HKy.out.cell 3
  simp at k0 k1 k2 k3
  obtain ⟨wa, hwa⟩ : ∃ wa : World, wa = w9.alloc (.cells #[.int .i64 y.num, .int .i64 y.wire, .int .u64 (y.n : Int), .slice sy.1 y.b.length sy.2] 39) := ⟨_, rfl⟩
  have hrow := rdf_one w9 y sy HRDy.out hly hmy
  have hsa : wa.heap.size = w9.heap.size + 1 := by rw [hwa]; simp
  have hba : Below w9.heap.size w9 wa := by rw [hwa]; exact (Below.refl _ _).alloc (Nat.le_refl _) _
  rw [← hwa, ← hsa] at hrow
  have hmay := may_row _ 1 1 _ _ wa hrow (Nat.le_refl _) (by omega) (by omega) (by intro f hf; simp at hf; subst hf; exact HY.out)
  rw [Tl.may_one hy3, HFy.out, HOy.out] at hmay
  have HF := Lib.hid hmay
  have HWA := Lib.hid hwa
  clear hrow hmay hwa
  go_wp2_with fail
  rw [← HWA.out]
  refine HF.out.mono ?_
  rintro e w11 ⟨rfl, hf⟩
  have hst : Below w9.heap.size w9 w11 := hba.trans (hf.mono hba.size)
  have hbww11 := hbww9.trans (hst.mono hbww9.size)
  replace HKx := Lib.hid (HKx.out.below hst hltx)
  replace hltx := HKx.out.lt
  replace HRDx := Lib.hid ((HRDx.out.below hst).more hst.size)
  replace HKy := Lib.hid (HKy.out.below hst hlty)
  replace hlty := HKy.out.lt
  replace HRDy := Lib.hid ((HRDy.out.below hst).more hst.size)
  clear hf hba hst HF HWA k0 k1 k2 k3 hsa
  have hsw := hbww11.size
  have k0 := HKx.out.cell 0
  have k1 := HKx.out.cell 1
  have k2 := HKx.out.cell 2
  have k3 := HKx.out.cell 3
  simp at k0 k1 k2 k3
  go_upto_region 6 with fail
  go_cut [10] (fun p wx => p = .bool Fx ∧ wx = w11)
  case first =>
    have hfit : fit x = (okTag x.num x.wire && !(decide (x.wire = 0) && decide (0 < x.b.length)) && !(decide (x.wire = 2) && decide (x.n ≠ 0))) := rfl
    by_cases h1 : 1 ≤ x.num
    · by_cases h2 : x.num ≤ 1000
      · by_cases h3 : x.wire = 0
        · have q1 : (x.wire == 0) = true := by rw [h3]; rfl
          have q2 : (x.wire == 2) = false := by rw [h3]; rfl
          have ho : okTag x.num x.wire = true := okTag_iff.2 ⟨h1, h2, .inl h3⟩
          by_cases h4 : x.b.length = 0
          · obtain rfl : Fx = true := by rw [← HFx.out, hfit, ho, h3, h4]; rfl
            have q3 : ((x.b.length : Int) == 0) = true := by rw [h4]; rfl
            clear h3 h4 hfit ho
            go_wp2
            go_meet
            case rel => exact ⟨rfl, rfl⟩
          · obtain rfl : Fx = false := by rw [← HFx.out, hfit, ho, h3, decide_eq_true (show 0 < x.b.length by omega)]; rfl
            have q3 : ((x.b.length : Int) == 0) = false := by rw [beq_eq_false_iff_ne]; omega
            clear h3 h4 hfit ho
            go_wp2
            go_meet
            case rel => exact ⟨rfl, rfl⟩
        · have q1 : (x.wire == 0) = false := by rw [beq_eq_false_iff_ne]; exact h3
          by_cases h5 : x.wire = 2
          · have q2 : (x.wire == 2) = true := by rw [h5]; rfl
            have ho : okTag x.num x.wire = true := okTag_iff.2 ⟨h1, h2, .inr h5⟩
            by_cases h4 : x.n = 0
            · obtain rfl : Fx = true := by rw [← HFx.out, hfit, ho, h5, h4]; rfl
              have q3 : ((x.n : Int) == 0) = true := by rw [h4]; rfl
              clear h3 h4 h5 hfit ho
              go_wp2
              go_meet
              case rel => exact ⟨rfl, rfl⟩
            · obtain rfl : Fx = false := by rw [← HFx.out, hfit, ho, h5, decide_eq_true h4]; rfl
              have q3 : ((x.n : Int) == 0) = false := by rw [beq_eq_false_iff_ne]; omega
              clear h3 h4 h5 hfit ho
              go_wp2
              go_meet
              case rel => exact ⟨rfl, rfl⟩
          · have q2 : (x.wire == 2) = false := by rw [beq_eq_false_iff_ne]; exact h5
            have ho : okTag x.num x.wire = false := by
              cases h : okTag x.num x.wire with
              | false => rfl
              | true => have := (okTag_iff.1 h).2.2; omega
            obtain rfl : Fx = false := by rw [← HFx.out, hfit, ho]; rfl
            clear h3 h5 hfit ho
            go_wp2
            go_meet
            case rel => exact ⟨rfl, rfl⟩
      · have ho : okTag x.num x.wire = false := by
          cases h : okTag x.num x.wire with
          | false => rfl
          | true => have := (okTag_iff.1 h).2.1; omega
        obtain rfl : Fx = false := by rw [← HFx.out, hfit, ho]; rfl
        clear hfit ho
        go_wp2
        go_meet
        case rel => exact ⟨rfl, rfl⟩
    · have ho : okTag x.num x.wire = false := by
        cases h : okTag x.num x.wire with
        | false => rfl
        | true => have := (okTag_iff.1 h).1; omega
      obtain rfl : Fx = false := by rw [← HFx.out, hfit, ho]; rfl
      clear hfit ho
      go_wp2
      go_meet
      case rel => exact ⟨rfl, rfl⟩
  case rest =>
    obtain ⟨rfl, hwc⟩ := hcut
    have hwc := hwc.symm
    subst hwc
    have j0 := HKy.out.cell 0
    have j1 := HKy.out.cell 1
    have j2 := HKy.out.cell 2
    have j3 := HKy.out.cell 3
    simp at j0 j1 j2 j3
    obtain ⟨w12, hw12⟩ : ∃ w' : World, w' = w11.alloc (.cells #[.int .i64 x.num, .int .i64 x.wire, .int .u64 (x.n : Int), .slice sx.1 x.b.length sx.2, .int .i64 y.num, .int .i64 y.wire, .int .u64 (y.n : Int), .slice sy.1 y.b.length sy.2] 39) := ⟨_, rfl⟩
    have hrow := rdf_pair w11 x y sx sy HRDx.out hlx hmx HRDy.out hly hmy
    have hsa : w12.heap.size = w11.heap.size + 1 := by rw [hw12]; simp
    have hba : Below w11.heap.size w11 w12 := by rw [hw12]; exact (Below.refl _ _).alloc (Nat.le_refl _) _
    rw [← hw12, ← hsa] at hrow
    have hmay := may_row _ 2 2 _ _ w12 hrow (Nat.le_refl _) (by omega) (by omega) (by
      intro f hf
      simp at hf
      rcases hf with rfl | rfl
      · exact HX.out
      · exact HY.out)
    rw [Tl.may_two hx3 hy3, HFx.out, HFy.out] at hmay
    have HF := Lib.hid hmay
    have HWA := Lib.hid hw12
    have hlx2 : gx < w12.heap.size := by omega
    have hly2 : gy < w12.heap.size := by omega
    have HKX2 := Lib.hid (HKx.out.below hba hltx)
    have HKY2 := Lib.hid (HKy.out.below hba hlty)
    have hbww12 := hbww11.trans (hba.mono hsw)
    clear hrow hmay hw12 hba hsa HKx HKy
    cases Fx with
    | false =>
      have e1 : ox = 1 := by rw [← HOx.out]; rfl
      subst e1
      simp only [Bool.false_and] at HF
      go_wp2_with fail
      rw [← HWA.out]
      refine HF.out.mono ?_
      rintro e w13 ⟨rfl, hf⟩
      have hbww13 := hbww12.trans (hf.mono hbww12.size)
      rw [if_neg (by decide)]
      go_wp2
      go_ret
      exact ⟨rfl, hbww13⟩
    | true =>
      have e1 : ox = 0 := by rw [← HOx.out]; rfl
      subst e1
      cases Fy with
      | false =>
        have e1 : oy = 1 := by rw [← HOy.out]; rfl
        subst e1
        simp only [Bool.and_false] at HF
        go_wp2_with fail
        rw [← HWA.out]
        refine HF.out.mono ?_
        rintro e w13 ⟨rfl, hf⟩
        have hbww13 := hbww12.trans (hf.mono hbww12.size)
        rw [if_neg (by decide)]
        go_wp2
        go_ret
        exact ⟨rfl, hbww13⟩
      | true =>
        have e1 : oy = 0 := by rw [← HOy.out]; rfl
        subst e1
        simp only [Bool.and_self] at HF
        obtain ⟨D, hD⟩ : ∃ D, falls x y = D := ⟨_, rfl⟩
        obtain ⟨od, hod⟩ : ∃ od : Nat, (if D = true then 5 else 0) = od := ⟨_, rfl⟩
        have HD := Lib.hid hD
        have HOD := Lib.hid hod
        clear hD hod
        go_wp2_with fail
        rw [← HWA.out]
        refine HF.out.mono ?_
        rintro e w13 ⟨rfl, hf⟩
        have hbww13 := hbww12.trans (hf.mono hbww12.size)
        rw [if_pos trivial, HD.out, HOD.out]
        have i0 := (HKX2.out.below hf hlx2).cell 0
        have i1 := (HKX2.out.below hf hlx2).cell 1
        have l0 := (HKY2.out.below hf hly2).cell 0
        have l1 := (HKY2.out.below hf hly2).cell 1
        simp at i0 i1 l0 l1
        clear k0 k1 k2 k3 j0 j1 j2 j3
        go_upto_region 12 with fail
        go_cut [12] (fun p wx => p = .bool (!D) ∧ wx = w13)
        case first =>
          have hfal : falls x y = (decide (y.num < x.num) || decide (y.num = x.num) && (decide (x.wire ≠ 2) || decide (y.wire ≠ 2))) := rfl
          by_cases h1 : x.num < y.num
          · obtain rfl : D = false := by rw [← HD.out, hfal, decide_eq_false (show ¬ y.num < x.num by omega), decide_eq_false (show ¬ y.num = x.num by omega)]; rfl
            clear hfal
            go_wp2
            go_meet
            case rel => exact ⟨rfl, rfl⟩
          · by_cases h2 : x.num = y.num
            · have q1 : (x.num == y.num) = true := by rw [h2]; simp
              by_cases h3 : x.wire = 2
              · have q2 : (x.wire == 2) = true := by rw [h3]; rfl
                by_cases h4 : y.wire = 2
                · have q3 : (y.wire == 2) = true := by rw [h4]; rfl
                  obtain rfl : D = false := by rw [← HD.out, hfal, h2, h3, h4]; simp
                  clear hfal h2 h3 h4
                  go_wp2
                  go_meet
                  case rel => exact ⟨rfl, rfl⟩
                · have q3 : (y.wire == 2) = false := by rw [beq_eq_false_iff_ne]; exact h4
                  obtain rfl : D = true := by rw [← HD.out, hfal, h2]; simp [h4]
                  clear hfal h2 h3 h4
                  go_wp2
                  go_meet
                  case rel => exact ⟨rfl, rfl⟩
              · have q2 : (x.wire == 2) = false := by rw [beq_eq_false_iff_ne]; exact h3
                obtain rfl : D = true := by rw [← HD.out, hfal, h2]; simp [h3]
                clear hfal h2 h3
                go_wp2
                go_meet
                case rel => exact ⟨rfl, rfl⟩
            · have q1 : (x.num == y.num) = false := by rw [beq_eq_false_iff_ne]; exact h2
              obtain rfl : D = true := by rw [← HD.out, hfal, decide_eq_true (show y.num < x.num by omega)]; rfl
              clear hfal h2
              go_wp2
              go_meet
              case rel => exact ⟨rfl, rfl⟩
        case rest =>
          obtain ⟨rfl, hwc⟩ := hcut
          have hwc := hwc.symm
          subst hwc
          cases D with
          | false =>
            have e1 : od = 0 := by rw [← HOD.out]; rfl
            subst e1
            go_wp2
            go_ret
            exact ⟨rfl, hbww13⟩
          | true =>
            have e1 : od = 5 := by rw [← HOD.out]; rfl
            subst e1
            go_wp2
            go_ret
            exact ⟨rfl, hbww13⟩
end Go.Proofs.Ytpbhmhagailhfaa
