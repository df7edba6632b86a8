/-
  Several texts in one: TlOne, TlMay, TlRPut, TlTakeP.
-/
import Derived.Test.YtkagonijkalicaaMgB
import Derived.Test.YtkagonijkalicaaMgD
import Derived.Test.YtkagonijkalicaaMgE
import Derived.Test.YtkagonijkalicaaApp
import Derived.Deep.DeepCutAuto
import Derived.BigQuiet
import Derived.Deep.AppendLies
set_option linter.unusedVariables false
set_option linter.unusedSimpArgs false

/-
  The walk of the reference's one: a field laid down.
-/
namespace Go.Proofs.Ytkagonijkalicaa
open Go.RowKit
open Tl (Fel)
open Tg (tput tput_byte tput_ok tput_no tput_len okTag rput_tag)
open Vi (put put_len put_byte rput_int)

/-- What a field may hold, and how long its bytes are. -/
def Fok (f : Fel) : Prop := f.wf ∧ -9223372036854775808 ≤ f.num ∧ f.num ≤ 9223372036854775807 ∧ -9223372036854775808 ≤ f.wire ∧ f.wire ≤ 9223372036854775807 ∧ f.b.length ≤ 17000

theorem own_base {w : World} {base base' : Nat} {e : TypeId} {size n : Nat} {v : Value} {xs : List Value} (h : w.ownsRow base e size v n xs) (hb : base' ≤ base) : w.ownsRow base' e size v n xs := by
  refine ⟨h.1, ?_⟩
  rcases h.2 with hn | ⟨g, cap, cur, hv, hbg, rest⟩
  · exact .inl hn
  · exact .inr ⟨g, cap, cur, hv, Nat.le_trans hb hbg, rest⟩
theorem tput_small (num wire : Int) : (tput num wire).1.length ≤ 2 := by
  cases h : okTag num wire with
  | false => rw [tput_no h]; simp
  | true => rw [tput_len h]; split <;> omega
theorem one_small {f : Fel} : (Tl.one f).length ≤ 12 + f.b.length := by
  unfold Tl.one
  have h1 := tput_small f.num f.wire
  have h2 := put_len f.n
  have h3 := put_len f.b.length
  rw [List.length_append]
  split
  · omega
  · rw [List.length_append]; omega

set_option maxHeartbeats 4000000 in
set_option maxRecDepth 100000 in
theorem one_any (f : Fel) (s : Option Addr × Nat) (w : World) (hf : Fok f) (hr : Rd w w.heap.size 1 s.1 f.b.length (bvs f.b)) (hs1 : f.b.length ≤ s.2) (hs2 : s.2 ≤ 9223372036854775807) :
    Calls Try.prog 71 #[aggOf f s] w (NewBytes w (Tl.one f)) := by
  obtain ⟨i0, hi, hz0, hz1, hz2⟩ := info_parts byte_info
  obtain ⟨⟨hn64, hfb⟩, n0, n1, k0, k1, hb17⟩ := hf
  unfold aggOf
  obtain ⟨w0, hw0⟩ : ∃ w0 : World, w0 = w.alloc (.cells #[.int .i64 f.num, .int .i64 f.wire, .int .u64 (f.n : Int), .slice s.1 f.b.length s.2] 55) := ⟨_, rfl⟩
  have hk0 : Blk w0 w.heap.size 55 #[.int .i64 f.num, .int .i64 f.wire, .int .u64 (f.n : Int), .slice s.1 f.b.length s.2] := by rw [hw0]; exact Blk.new _ _ _
  have hb0 : Below w.heap.size w w0 := by rw [hw0]; exact (Below.refl _ _).alloc (Nat.le_refl _) _
  have hs0 : w.heap.size < w0.heap.size := by rw [hw0]; simp
  have hr0 := (hr.below hb0).more (Nat.le_of_lt hs0)
  have HW := Lib.hid hw0
  have HR := Lib.hid hr0
  have HK := Lib.hid hk0
  have HB := Lib.hid hfb
  clear hw0 hr hr0 hk0 hfb
  have hts := tput_small f.num f.wire
  obtain ⟨tb, htb⟩ : ∃ tb, (tput f.num f.wire).1 = tb := ⟨_, rfl⟩
  have hone : Tl.one f = tb ++ if f.wire = 0 then put f.n else put f.b.length ++ f.b := by rw [← htb]; rfl
  rw [htb] at hts
  obtain ⟨m, hm⟩ : ∃ m, tb.length = m := ⟨_, rfl⟩
  rw [hm] at hts
  have HT := Lib.hid htb
  have HM := Lib.hid hm
  have HO := Lib.hid hone
  clear htb hm hone
  go_enter Try.func71, Try.ntmps71
  go_wp2_with fail
  rw [← HW.out]
  refine (rput_tag f.num f.wire w0 n0 n1 k0 k1).mono ?_
  rintro e w1 ⟨v1, rfl, hown1, hb1⟩
  rw [HT.out] at hown1
  rw [HM.out] at hown1
  obtain ⟨A1, d1, rfl, hd1, hd12⟩ := slice_of_own hown1
  have HO0 := Lib.hid hown1
  have HO1 := Lib.hid (own_base hown1 (Nat.le_of_lt hs0))
  have hsz01 := hb1.size
  have hbw1 := hb0.trans (hb1.mono (Nat.le_of_lt hs0))
  have hk1 := HK.out.below hb1 hs0
  have HR1 := Lib.hid (HR.out.below hb1)
  have hs1w := hk1.lt
  have c1 := hk1.cell 1
  have c2 := hk1.cell 2
  have c3 := hk1.cell 3
  simp at c1 c2 c3
  clear hown1 hk1 HR HK HW hb1 hb0
  have hsz := hbw1.size
  by_cases hw0 : f.wire = 0
  · have hone := HO.out
    rw [if_pos hw0] at hone
    have HO2 := Lib.hid hone
    have q : (f.wire == 0) = true := by rw [hw0]; rfl
    clear hone hw0
    go_wp2_with fail
    refine (rput_int (f.n : Int) w1 (by omega) (by omega)).mono ?_
    rintro e w2 ⟨v2, rfl, hown2, hb2⟩
    rw [Int.toNat_natCast] at hown2
    obtain ⟨A2, d2, rfl, hd2, hd22⟩ := slice_of_own hown2
    have hl2 := put_len f.n
    have hbw2 := hbw1.trans (hb2.mono hsz)
    have hsz2 := hbw2.size
    go_wp2_with (at_builtin; refine wpList_append_rd _ rfl (.tmp 16) (.tmp 19) 25 rfl w.heap.size 5 i0 (.int .u8 0) 1 1 Try.underlying25 hi hz0 hz1 hz2 rfl (by decide) _ m (bvs tb) rfl (own_below HO1.out hb2) w2.heap.size A2 (put f.n).length d2 (bvs (put f.n)) rfl (Rd.of_own hown2) (bvs_one _) (by unfold maxLen; omega) (by omega) (by omega) ?_)
    intro v3 w3 hown3 hg3
    have hb3 : Below w.heap.size w w3 := hbw2.grown hg3 (by omega) (fun k hk => (HO1.out.lt k hk).1)
    go_wp2
    go_ret
    refine ⟨_, rfl, ?_, hb3⟩
    rw [HO2.out, bvs_app, List.length_append, HM.out]
    exact hown3
  · have hone := HO.out
    rw [if_neg hw0] at hone
    have HO2 := Lib.hid hone
    have q : (f.wire == 0) = false := by rw [beq_eq_false_iff_ne]; exact hw0
    clear hone hw0
    obtain ⟨L, hL⟩ : ∃ L, f.b.length = L := ⟨_, rfl⟩
    have HL := Lib.hid hL
    have hr1 := HR1.out
    rw [hL] at hr1 c3 hb17 hs1
    have HR2 := Lib.hid hr1
    have hone := HO2.out
    rw [hL] at hone
    obtain ⟨lb, hlb⟩ : ∃ lb, put L = lb := ⟨_, rfl⟩
    have hlb2 := put_len L
    rw [hlb] at hlb2 hone
    obtain ⟨ml, hml⟩ : ∃ ml, lb.length = ml := ⟨_, rfl⟩
    rw [hml] at hlb2
    have HLB := Lib.hid hlb
    have HML := Lib.hid hml
    have HO3 := Lib.hid hone
    clear hL hr1 hone hlb hml HR1 HO2
    go_upto_region 4 with fail
    clear c1 c2
    go_cut [2] (fun v wx => wx.ownsRow w0.heap.size 5 1 v (m + ml + L) (bvs tb ++ bvs lb ++ bvs f.b) ∧ Below w.heap.size w wx)
    case first =>
      have t0 : w1.drew.ownsRow w0.heap.size 5 1 (.slice A1 m d1) m (bvs tb) := HO0.out.drew
      have t4 : w0.heap.size ≤ w1.drew.heap.size := hsz01
      have t6 : (Value.int .u8 0).cells.size = 1 := rfl
      have t7 : Below w0.heap.size w1 w1.drew := (Below.refl _ _).drew
      have t8 : m + ml ≤ maxLen := by unfold maxLen; omega
      have t9 : (m + ml) * 1 ≤ 140737488355328 := by omega
      have t10 : m + ml + L ≤ maxLen := by unfold maxLen; omega
      have t11 : (m + ml + L) * 1 ≤ 140737488355328 := by omega
      have t12 : (0 : Int) ≤ (L : Int) := by omega
      have t13 : (L : Int) ≤ 18446744073709551615 := by omega
      have t14 : IntKind.u64.wrap (L : Int) = (L : Int) := by rw [IntKind.wrap_u64]; omega
      go_region_held3 (fun w' => w'.cell? ⟨w.heap.size, 3, none⟩ = some (.slice s.1 L s.2)) (go_keep)
        (first
          | (fail_if_success (have gg := hown8)
             go_at_call 37
             refine (rput_int (L : Int) _ t12 t13).mono ?_
             rintro e w8 ⟨v8, rfl, hown8, hb8⟩
             replace hown8 : w8.ownsRow w1.heap.size 5 1 v8 ml (bvs lb) := by have h1 := hown8; simp only [Int.toNat_natCast, HLB.out, HML.out] at h1; exact h1
             obtain ⟨A8, c8, rfl, hc8, hc82⟩ := slice_of_own hown8
             have r8 := Rd.of_own hown8
             have h18 : Below w1.heap.size w1 w8 := (Below.refl _ w1).drew.trans hb8
             have hown77 : w8.ownsRow w0.heap.size 5 1 (.slice A1 m d1) m (bvs tb) := own_below HO0.out h18
             have t15 : w0.heap.size ≤ w8.heap.size := Nat.le_trans hsz01 h18.size
             have hb88 : Below w0.heap.size w1 w8 := h18.mono hsz01
             have f8 : w8.cell? ⟨w.heap.size, 3, none⟩ = some (.slice s.1 L s.2) := (hb88.cell (p := ⟨w.heap.size, 3, none⟩) hs0).trans c3
             clear hb8)
          | (fail_if_success (have gg := hown9)
             refine step_append_rd (by rfl) (.tmp 21) (.tmp 26) 25 (by rfl) w0.heap.size 5 i0 (.int .u8 0) 1 1 Try.underlying25 hi hz0 hz1 hz2 t6 (by decide) (.slice A1 m d1) m (bvs tb) ?g1 hown77 w8.heap.size A8 ml c8 (bvs lb) ?g2 r8 (bvs_one _) t8 t9 t15 ?_
             case g1 => rfl
             case g2 => rfl
             intro v9 w9 hown9 hg9
             have hb9 : Below w0.heap.size w1 w9 := hb88.grown hg9 t15 (fun k hk => (hown77.lt k hk).1)
             have f9 : w9.cell? ⟨w.heap.size, 3, none⟩ = some (.slice s.1 L s.2) := (hb9.cell (p := ⟨w.heap.size, 3, none⟩) hs0).trans c3
             have r9 : Rd w9 w0.heap.size 1 s.1 L (bvs f.b) := HR2.out.below hb9
             have t16 : w0.heap.size ≤ w9.heap.size := Nat.le_trans hsz01 hb9.size
             clear hg9)
          | (fail_if_success (have gg := hown10)
             refine step_append_rd (by rfl) (.tmp 27) (.tmp 29) 25 (by rfl) w0.heap.size 5 i0 (.int .u8 0) 1 1 Try.underlying25 hi hz0 hz1 hz2 t6 (by decide) v9 (m + ml) (bvs tb ++ bvs lb) ?g1 hown9 w0.heap.size s.1 L s.2 (bvs f.b) ?g2 r9 (bvs_one _) t10 t11 t16 ?_
             case g1 => rfl
             case g2 => rfl
             intro v10 w10 hown10 hg10
             have hb10 : Below w0.heap.size w1 w10 := hb9.grown hg10 t16 (fun k hk => (hown9.lt k hk).1)
             have f10 : w10.cell? ⟨w.heap.size, 3, none⟩ = some (.slice s.1 L s.2) := (hb10.cell (p := ⟨w.heap.size, 3, none⟩) hs0).trans c3
             clear hg10)
          | fail)
      go_wp2
      go_meet
      case rel => exact ⟨hown10, hbw1.trans (hb10.mono (Nat.le_of_lt hs0))⟩
    case rest =>
      obtain ⟨hown, hbw⟩ := hcut
      go_wp2
      go_ret
      refine ⟨_, rfl, ?_, hbw⟩
      have e : Tl.one f = tb ++ lb ++ f.b := by rw [HO3.out, List.append_assoc]
      rw [e, bvs_app, bvs_app, List.length_append, List.length_append, HM.out, HML.out, HL.out]
      exact own_base hown (Nat.le_of_lt hs0)
end Go.Proofs.Ytkagonijkalicaa

/-
  The walk of the reference's May: whether a row of fields may be.
-/

namespace Go.Proofs.Ytkagonijkalicaa
open Go.RowKit
open Tl (Fel mayGo may flat fit falls)
open Tg (tput tput_byte tput_ok tput_no tput_len okTag okTag_iff rput_tag)
open Vi (put put_len put_byte rput_int)

/-- The field ahead of the j-th. -/
def ahead (l : List Fel) (j : Nat) : Option Fel := if j = 0 then none else l[j - 1]?
theorem flat_snoc {l : List Fel} {k : Nat} {f : Fel} (h : l[k]? = some f) : flat (l.take (k + 1)) = flat (l.take k) ++ Tl.one f := by
  rw [List.take_add_one, h, Tl.flat_app]
  simp [flat]
theorem mayGo_step {l : List Fel} {j : Nat} {f : Fel} (hf : l[j]? = some f) (p : Option Fel) :
    mayGo p (l.drop j) = if fit f = false then 1 else if p.any (falls · f) then 5 else if 16384 < f.b.length then 4 else mayGo (some f) (l.drop (j + 1)) := by
  have hlt := (List.getElem?_eq_some_iff.1 hf).1
  rw [List.drop_eq_getElem_cons hlt]
  have e : l[j] = f := by rw [List.getElem?_eq_getElem hlt] at hf; exact Option.some.inj hf
  rw [e, mayGo]
theorem tput_err (num wire : Int) : (tput num wire).2 = if okTag num wire then 0 else 1 := by
  cases h : okTag num wire with
  | false => rw [tput_no h]; rfl
  | true => rw [tput_ok h]; rfl

set_option maxHeartbeats 4000000 in
set_option maxRecDepth 100000 in
theorem rmay_any (A : Option Addr) (n c : Nat) (l : List Fel) (S : List (Option Addr × Nat)) (w : World) (h : RdF w w.heap.size A n l S) (hnc : n ≤ c) (hmax : c ≤ 9223372036854775807) (hn : n ≤ 20000) (hw : ∀ f ∈ l, Fok f) :
    Calls Try.prog 70 #[.slice A n c] w fun e w' => e = .returned (.int .i64 (may l : Nat)) ∧ Below w.heap.size w w' := by
  have HR := Lib.hid h
  have HN := Lib.hid h.1
  have HW := Lib.hid hw
  clear h hw
  go_enter Try.func70, Try.ntmps70
  go_wp2
  go_loopw [3] (fun i wr => ∃ j : Nat, j ≤ n ∧ i = .int .i64 (j : Int) ∧ mayGo none l = mayGo (ahead l j) (l.drop j) ∧ Below w.heap.size w wr) (fun i _ => n - (intOf i).toNat)
  case atStart => exact ⟨0, Nat.zero_le _, rfl, rfl, Below.refl _ _⟩
  case round =>
    obtain ⟨j, hj, rfl, hm, hb⟩ := hrel
    have HM := Lib.hid hm
    clear hm
    have hsz := hb.size
    by_cases hlt : j < n
    · obtain ⟨ad, f, s, rfl, hab, hf, hs, g0, g1, g2, g3, hrd, hs1, hs2⟩ := (HR.out.below hb).spell hlt
      obtain ⟨⟨hn64, hfb⟩, n0, n1, k0, k1, hb17⟩ := HW.out f (List.mem_of_getElem? hf)
      have hst := mayGo_step hf (ahead l j)
      have HST := Lib.hid hst
      have HF := Lib.hid hf
      clear hst hfb hf hs
      obtain ⟨w3, hw3⟩ : ∃ w3 : World, w3 = wr.alloc (.cells #[.int .i64 f.num, .int .i64 f.wire, .int .u64 (f.n : Int), .slice s.1 f.b.length s.2] 55) := ⟨_, rfl⟩
      have hk3 : Blk w3 wr.heap.size 55 #[.int .i64 f.num, .int .i64 f.wire, .int .u64 (f.n : Int), .slice s.1 f.b.length s.2] := by rw [hw3]; exact Blk.new _ _ _
      have hb3 : Below wr.heap.size wr w3 := by rw [hw3]; exact (Below.refl _ _).alloc (Nat.le_refl _) _
      have hs3 : wr.heap.size < w3.heap.size := by rw [hw3]; simp
      have HK3 := Lib.hid hk3
      have HW3 := Lib.hid hw3
      clear hw3 hk3
      go_wp2_with fail
      rw [← HW3.out]
      refine (rput_tag f.num f.wire w3 n0 n1 k0 k1).mono ?_
      rintro e w5 ⟨v5, rfl, hown5, hb5⟩
      obtain ⟨A5, c5, rfl, _, _⟩ := slice_of_own hown5
      have hk5 := HK3.out.below hb5 hs3
      have hlt5 := hk5.lt
      have hb35 := hb3.trans (hb5.mono hb3.size)
      have hbw5 := hb.trans (hb35.mono hsz)
      have HK5 := Lib.hid hk5
      rw [tput_err]
      clear hown5 hb5 HK3 HW3 hk5 hb3
      have z0 := HK5.out.cell 0
      have z1 := HK5.out.cell 1
      have z2 := HK5.out.cell 2
      have z3 := HK5.out.cell 3
      simp at z0 z1 z2 z3
      obtain ⟨G, hG⟩ : ∃ G, fit f = G := ⟨_, rfl⟩
      have HG := Lib.hid hG
      clear hG
      cases ho : okTag f.num f.wire with
      | false =>
        obtain rfl : G = false := by rw [← HG.out]; unfold fit; rw [ho]; rfl
        rw [if_neg (by decide)]
        clear ho
        go_wp2
        go_ret
        refine ⟨?_, hbw5⟩
        have e : mayGo none l = 1 := by rw [HM.out, HST.out, if_pos HG.out]
        unfold may
        rw [e]; rfl
      | true =>
        rw [if_pos rfl]
        go_upto_region 6 with fail
        go_cut [49] (fun b wx => b = .bool (!G) ∧ wx = w5)
        case first =>
          have hof := (okTag_iff.1 ho).2.2
          have hfit : fit f = (!(decide (f.wire = 0) && decide (0 < f.b.length)) && !(decide (f.wire = 2) && decide (f.n ≠ 0))) := by unfold fit; rw [ho]; rfl
          rcases hof with h0 | h0
          · have q1 : (f.wire == 0) = true := by rw [h0]; rfl
            have q2 : (f.wire == 2) = false := by rw [h0]; rfl
            by_cases hbl : 0 < f.b.length
            · obtain rfl : G = false := by rw [← HG.out, hfit, h0]; simp [hbl]
              clear h0 hfit ho
              go_wp2
              all_goals
                go_meet
                case rel => exact ⟨rfl, rfl⟩
            · obtain rfl : G = true := by rw [← HG.out, hfit, h0, decide_eq_false hbl]; rfl
              clear h0 hfit ho
              go_wp2
              all_goals
                go_meet
                case rel => exact ⟨rfl, rfl⟩
          · have q1 : (f.wire == 0) = false := by rw [h0]; rfl
            have q2 : (f.wire == 2) = true := by rw [h0]; rfl
            by_cases hbl : f.n = 0
            · obtain rfl : G = true := by rw [← HG.out, hfit, h0]; simp [hbl]
              have q3 : ((f.n : Int) != 0) = false := by rw [hbl]; rfl
              clear h0 hfit ho hbl
              go_wp2
              all_goals
                go_meet
                case rel => exact ⟨rfl, rfl⟩
            · obtain rfl : G = false := by rw [← HG.out, hfit, h0]; simp [hbl]
              have q3 : ((f.n : Int) != 0) = true := by rw [bne_iff_ne]; omega
              clear h0 hfit ho hbl
              go_wp2
              all_goals
                go_meet
                case rel => exact ⟨rfl, rfl⟩
        case rest =>
          obtain ⟨rfl, hwc⟩ := hcut
          have hwc := hwc.symm
          subst hwc
          cases G with
          | false =>
            go_wp2
            go_ret
            refine ⟨?_, hbw5⟩
            have e : mayGo none l = 1 := by rw [HM.out, HST.out, if_pos HG.out]
            unfold may
            rw [e]; rfl
          | true =>
            clear z0 z1 z2 g0 g1 g2 g3 hrd
            by_cases hj0 : 0 < j
            · obtain ⟨i, rfl⟩ : ∃ i, j = i + 1 := ⟨j - 1, by omega⟩
              obtain ⟨ad', p, sp, hA, hpb, hp, hsp, p0, p1, p2, p3, _, _, _⟩ := (HR.out.below hb).spell (show i < n by omega)
              cases hA
              have hpl : (ad.add (i * 4)).block < wr.heap.size := by rw [add_block]; omega
              have hpl0 : (ad.add (i * 4)).block < w5.heap.size := Nat.lt_of_lt_of_le hpl hb35.size
              replace p0 := (hb35.cell (p := ad.add (i * 4)) hpl).trans p0
              replace p1 := (hb35.cell (p := ⟨(ad.add (i * 4)).block, (ad.add (i * 4)).off + 1, none⟩) hpl).trans p1
              replace p2 := (hb35.cell (p := ⟨(ad.add (i * 4)).block, (ad.add (i * 4)).off + 2, none⟩) hpl).trans p2
              replace p3 := (hb35.cell (p := ⟨(ad.add (i * 4)).block, (ad.add (i * 4)).off + 3, none⟩) hpl).trans p3
              obtain ⟨D, hD⟩ : ∃ D, falls p f = D := ⟨_, rfl⟩
              have HFD := Lib.hid hD
              have HD := Lib.hid (show (ahead l (i + 1)).any (falls · f) = D by
                have e : ahead l (i + 1) = some p := hp
                rw [e]; exact hD)
              clear hD hp hsp
              go_upto_region 8 with fail
              go_cut [60] (fun b wx => b = .bool D ∧ Below w5.heap.size w5 wx)
              case first =>
                refine wp_region_grew (n := 81) (Say [(50, isv (.int .i64 ((i + 1 : Nat) : Int))), (51, isv (.bool true)), (52, isv (.bool true)), (53, isv (.slice (some ad) n c)), (54, isv (.int .i64 ((i + 1 : Nat) : Int))), (55, isv (.int .i64 (i : Int))), (56, isv (.pointer (some (ad.add (i * 4))))), (57, isv (aggOf p sp)), (58, isv (aggOf f s)), (59, isv (.bool D)), (60, isv (.bool D))]) (by kernel_rfl) (by kernel_rfl) rfl ⟨?_, ?_, ?_, ?_, ?_, ?_, ?_, ?_, ?_, ?_, ?_, trivial⟩ ?_
                · exact owed_move rfl rfl (.inl rfl) fun fr w _ hK => known_out hK 3 (by kernel_rfl)
                · refine owed_val _ rfl rfl (fun _ => rfl) fun fr w hC hK => ?_
                  have k50 : slot fr 50 = .int .i64 ((i + 1 : Nat) : Int) := known_in hK 50 (by kernel_rfl)
                  clear hK
                  unfold slot at k50
                  go_simp
                · exact owed_move rfl rfl (.inl rfl) fun fr w _ hK => known_in hK 51 (by kernel_rfl)
                · exact owed_movew rfl rfl rfl (by kernel_rfl) (fun _ _ h => h) (.inl rfl) fun fr w _ hK => known_out hK 0 (by kernel_rfl)
                · exact owed_movew rfl rfl rfl (by kernel_rfl) (fun _ _ h => h) (.inl rfl) fun fr w _ hK => known_out hK 3 (by kernel_rfl)
                · refine owed_wval _ rfl rfl rfl (by kernel_rfl) (fun _ _ h => h) (fun _ => rfl) fun fr w hC hK => ?_
                  have k54 : slot fr 54 = .int .i64 ((i + 1 : Nat) : Int) := known_in hK 54 (by kernel_rfl)
                  clear hK
                  unfold slot at k54
                  have f1 : IntKind.i64.wrap (i : Int) = (i : Int) := by rw [IntKind.wrap_i64]; omega
                  go_simp
                · refine owed_wval _ rfl rfl rfl (by kernel_rfl) (fun _ _ h => h) (fun _ => rfl) fun fr w hC hK => ?_
                  have k53 : slot fr 53 = .slice (some ad) n c := known_in hK 53 (by kernel_rfl)
                  have k55 : slot fr 55 = .int .i64 (i : Int) := known_in hK 55 (by kernel_rfl)
                  clear hK
                  unfold slot at k53 k55
                  have f1 : i < n := by omega
                  have f2 : ¬ n ≤ i := by omega
                  go_simp
                · refine owed_wval _ rfl rfl rfl (by kernel_rfl) (fun _ _ h => h) (fun _ => rfl) fun fr w hC hK => ?_
                  have k56 : slot fr 56 = .pointer (some (ad.add (i * 4))) := known_in hK 56 (by kernel_rfl)
                  clear hK
                  unfold slot at k56
                  unfold aggOf
                  have x0 := (Below.cell hC (p := ad.add (i * 4)) hpl0).trans p0
                  have x1 := (Below.cell hC (p := ⟨(ad.add (i * 4)).block, (ad.add (i * 4)).off + 1, none⟩) hpl0).trans p1
                  have x2 := (Below.cell hC (p := ⟨(ad.add (i * 4)).block, (ad.add (i * 4)).off + 2, none⟩) hpl0).trans p2
                  have x3 := (Below.cell hC (p := ⟨(ad.add (i * 4)).block, (ad.add (i * 4)).off + 3, none⟩) hpl0).trans p3
                  go_simp
                · refine owed_wval _ rfl rfl rfl (by kernel_rfl) (fun _ _ h => h) (fun _ => rfl) fun fr w hC hK => ?_
                  have k4 : slot fr 4 = .pointer (some ⟨wr.heap.size, 0, none⟩) := known_out hK 4 (by kernel_rfl)
                  clear hK
                  unfold slot at k4
                  unfold aggOf
                  have hk := Blk.below HK5.out hC hlt5
                  have x0 := hk.cell 0
                  have x1 := hk.cell 1
                  have x2 := hk.cell 2
                  have x3 := hk.cell 3
                  simp at x0 x1 x2 x3
                  go_simp
                · refine owed_wanted rfl rfl rfl (by kernel_rfl) (fun _ _ h => h) fun fr w hC hK K hk => ?_
                  have k57 : slot fr 57 = aggOf p sp := known_in hK 57 (by kernel_rfl)
                  have k58 : slot fr 58 = aggOf f s := known_in hK 58 (by kernel_rfl)
                  clear hK
                  unfold slot at k57 k58
                  go_simp
                  refine (falls_any p f sp s w).mono ?_
                  rintro e w' ⟨rfl, hb⟩
                  exact hk _ _ hb (congrArg Value.bool HFD.out)
                · refine owed_val _ rfl rfl (fun _ => rfl) fun fr w hC hK => ?_
                  have k52 : slot fr 52 = .bool true := known_in hK 52 (by kernel_rfl)
                  have k59 : slot fr 59 = .bool D := known_in hK 59 (by kernel_rfl)
                  clear hK
                  unfold slot at k52 k59
                  go_simp
                intro vs w' hg hgood
                have h6 : vs 60 = .bool D := hgood.2.2.2.2.2.2.2.2.2.2.1
                clear hgood
                simp only [putsOf]
                rw [h6]
                go_simp
                go_wp2
                go_meet
                case rel => exact ⟨rfl, hg⟩
              case rest =>
                obtain ⟨rfl, hb8⟩ := hcut
                have hbw8 := hbw5.trans (hb8.mono hbw5.size)
                have z3' := (hb8.cell (p := ⟨wr.heap.size, 3, none⟩) hlt5).trans z3
                clear z3 hb8
                cases D with
                | true =>
                  go_wp2
                  go_ret
                  refine ⟨?_, hbw8⟩
                  have e : mayGo none l = 5 := by rw [HM.out, HST.out, if_neg (by rw [HG.out]; decide), if_pos HD.out]
                  unfold may
                  rw [e]; rfl
                | false =>
                  by_cases hbig : 16384 < f.b.length
                  · go_wp2
                    go_ret
                    refine ⟨?_, hbw8⟩
                    have e : mayGo none l = 4 := by rw [HM.out, HST.out, if_neg (by rw [HG.out]; decide), if_neg (by rw [HD.out]; decide), if_pos hbig]
                    unfold may
                    rw [e]; rfl
                  · go_wp2
                    go_roundw
                    case rel =>
                      refine ⟨(i + 1) + 1, by omega, by go_num, ?_, hbw8⟩
                      rw [HM.out, HST.out, if_neg (by rw [HG.out]; decide), if_neg (by rw [HD.out]; decide), if_neg hbig]
                      have e : ahead l ((i + 1) + 1) = some f := HF.out
                      rw [e]
                    case measure => simp [intOf]; omega
            · have hD : (ahead l j).any (falls · f) = false := by unfold ahead; rw [if_pos (by omega)]; rfl
              have HD := Lib.hid hD
              obtain ⟨D, hDD⟩ : ∃ D, D = false := ⟨_, rfl⟩
              rw [← hDD] at HD
              clear hD
              go_upto_region 8 with fail
              go_cut [60] (fun b wx => b = .bool D ∧ Below w5.heap.size w5 wx)
              case first =>
                subst hDD
                go_quiet (fail)
                go_wp2
                go_meet
                case rel => exact ⟨rfl, bel_drewN (Below.refl _ _) _⟩
              case rest =>
                clear hDD
                obtain ⟨rfl, hb8⟩ := hcut
                have hbw8 := hbw5.trans (hb8.mono hbw5.size)
                have z3' := (hb8.cell (p := ⟨wr.heap.size, 3, none⟩) hlt5).trans z3
                clear z3 hb8
                cases D with
                | true =>
                  go_wp2
                  go_ret
                  refine ⟨?_, hbw8⟩
                  have e : mayGo none l = 5 := by rw [HM.out, HST.out, if_neg (by rw [HG.out]; decide), if_pos HD.out]
                  unfold may
                  rw [e]; rfl
                | false =>
                  by_cases hbig : 16384 < f.b.length
                  · go_wp2
                    go_ret
                    refine ⟨?_, hbw8⟩
                    have e : mayGo none l = 4 := by rw [HM.out, HST.out, if_neg (by rw [HG.out]; decide), if_neg (by rw [HD.out]; decide), if_pos hbig]
                    unfold may
                    rw [e]; rfl
                  · go_wp2
                    go_roundw
                    case rel =>
                      refine ⟨j + 1, by omega, by go_num, ?_, hbw8⟩
                      rw [HM.out, HST.out, if_neg (by rw [HG.out]; decide), if_neg (by rw [HD.out]; decide), if_neg hbig]
                      have e : ahead l (j + 1) = some f := HF.out
                      rw [e]
                    case measure => simp [intOf]; omega
    · obtain rfl : j = n := by omega
      have hm0 : mayGo none l = 0 := by
        rw [HM.out, List.drop_eq_nil_of_le (by have := HN.out; omega)]
        unfold mayGo
        rfl
      have HM0 := Lib.hid hm0
      clear hm0
      go_wp2
      go_loopw [7, 8] (fun x i w2 => ∃ k : Nat, k ≤ j ∧ i = .int .i64 (k : Int) ∧ x = .int .i64 (((flat (l.take k)).length : Nat) : Int) ∧ (flat (l.take k)).length ≤ 17012 * k ∧ Below w.heap.size w w2) (fun _ i _ => j - (intOf i).toNat)
      case atStart => exact ⟨0, Nat.zero_le _, rfl, rfl, by simp [flat], hb⟩
      case round =>
        obtain ⟨k, hk, rfl, rfl, hx, hb2⟩ := hrel
        obtain ⟨m, hm⟩ : ∃ m, (flat (l.take k)).length = m := ⟨_, rfl⟩
        rw [hm] at hx ⊢
        have HM2 := Lib.hid hm
        clear hm
        have hsz2 := hb2.size
        by_cases hlt2 : k < j
        · obtain ⟨ad, f, s, rfl, hab, hf, hs, g0, g1, g2, g3, hrd, hs1, hs2⟩ := (HR.out.below hb2).spell hlt2
          have hok := HW.out f (List.mem_of_getElem? hf)
          have hb17 := hok.2.2.2.2.2
          have hsm := one_small (f := f)
          have e : (flat (l.take (k + 1))).length = m + (Tl.one f).length := by
            rw [List.take_add_one, hf, Tl.flat_app, List.length_append, HM2.out]
            simp [flat]
          have HE := Lib.hid e
          have HOK := Lib.hid hok
          have hrd1 := hrd.more hsz2
          clear e hok hf hs hrd
          go_wp2_with fail
          refine (one_any f s wr HOK.out hrd1 hs1 hs2).mono ?_
          rintro e w3 ⟨v3, rfl, hown3, hb3⟩
          obtain ⟨A3, c3, rfl, _, _⟩ := slice_of_own hown3
          have hbw3 := hb2.trans (hb3.mono hsz2)
          clear hown3 hb3
          go_wp2
          go_roundw
          case rel =>
            refine ⟨k + 1, by omega, by go_num, ?_, by rw [HE.out]; omega, hbw3⟩
            rw [HE.out]; go_num
          case measure => simp [intOf]; omega
        · obtain rfl : k = j := by omega
          have hfl : (flat l).length = m := by
            have := HM2.out
            rwa [List.take_of_length_le (by have := HN.out; omega)] at this
          have HFL := Lib.hid hfl
          clear hfl
          by_cases hbig : 16384 < m
          · go_wp2
            go_ret
            refine ⟨?_, hb2⟩
            unfold may
            rw [HM0.out, HFL.out]
            simp only [ne_eq, not_true, if_false]
            rw [if_pos hbig]
            rfl
          · go_wp2
            go_ret
            refine ⟨?_, hb2⟩
            unfold may
            rw [HM0.out, HFL.out]
            simp only [ne_eq, not_true, if_false]
            rw [if_neg hbig]
            rfl
end Go.Proofs.Ytkagonijkalicaa

/-
  The walk of the reference's Put: a row of fields laid down.
-/
namespace Go.Proofs.Ytkagonijkalicaa
open Go.RowKit
open Tl (Fel mayGo may flat fit putRow)

set_option maxHeartbeats 4000000 in
set_option maxRecDepth 100000 in
theorem rput_row (A : Option Addr) (n c : Nat) (l : List Fel) (S : List (Option Addr × Nat)) (w : World) (h : RdF w w.heap.size A n l S) (hnc : n ≤ c) (hmax : c ≤ 9223372036854775807) (hn : n ≤ 20000) (hw : ∀ f ∈ l, Fok f) :
    Calls Try.prog 52 #[.slice A n c] w (NewPair w (putRow l).1 ((putRow l).2 : Nat)) := by
  obtain ⟨i0, hi, hz0, hz1, hz2⟩ := info_parts byte_info
  obtain ⟨m, hm⟩ : ∃ m, may l = m := ⟨_, rfl⟩
  have hput : putRow l = if m ≠ 0 then ([], m) else (flat l, 0) := by unfold putRow; rw [hm]
  have hm5 : m ≤ 5 := by have := Tl.may_err l; omega
  have HM := Lib.hid hm
  have HP := Lib.hid hput
  have HR := Lib.hid h
  have HN := Lib.hid h.1
  have HW := Lib.hid hw
  have hcall := rmay_any A n c l S w h hnc hmax hn hw
  rw [hm] at hcall
  have HC := Lib.hid hcall
  clear h hw hm hput hcall
  by_cases h0 : m = 0
  · have hp := HP.out
    rw [if_neg (by omega)] at hp
    rw [hp]
    have HP2 := Lib.hid hp
    clear hp HP HM
    subst h0
    go_enter Try.func52, Try.ntmps52
    go_wp2_with fail
    refine HC.out.mono ?_
    rintro e w1 ⟨rfl, hb1⟩
    have hsz1 := hb1.size
    go_wp2
    go_loopw [5, 6] (fun v i wr => ∃ (k m : Nat), k ≤ n ∧ i = .int .i64 (k : Int) ∧ m ≤ 17012 * k ∧ (flat (l.take k)).length = m ∧ wr.ownsRow w.heap.size 5 1 v m (bvs (flat (l.take k))) ∧ Below w.heap.size w wr) (fun _ i _ => n - (intOf i).toNat)
    case atStart =>
      refine ⟨0, 0, Nat.zero_le _, rfl, by omega, by simp [flat], ?_, hb1.alloc hsz1 _⟩
      have h1 := World.ownsRow_made (e := 5) (size := 1) (base := w.heap.size) w1 #[] 0 hsz1 (by unfold maxLen; omega) rfl
      simpa [flat, bvs] using h1
    case round =>
      obtain ⟨k, m, hk, rfl, hmk, hml, hown, hb⟩ := hrel
      have HO := Lib.hid hown
      have HML := Lib.hid hml
      have hsz := hb.size
      clear hown hml
      by_cases hlt : k < n
      · obtain ⟨ad, f, s, rfl, hab, hf, hs, g0, g1, g2, g3, hrd, hs1, hs2⟩ := (HR.out.below hb).spell hlt
        have hok := HW.out f (List.mem_of_getElem? hf)
        have hb17 := hok.2.2.2.2.2
        have hsm := one_small (f := f)
        have e := flat_snoc hf
        have HE := Lib.hid e
        have HOK := Lib.hid hok
        have hrd1 := hrd.more hsz
        obtain ⟨z, hz⟩ : ∃ z, (Tl.one f).length = z := ⟨_, rfl⟩
        rw [hz] at hsm
        have HZ := Lib.hid hz
        clear e hok hf hs hrd hz
        go_wp2_with fail
        refine (one_any f s wr HOK.out hrd1 hs1 hs2).mono ?_
        rintro e w3 ⟨v3, rfl, hown3, hb3⟩
        rw [HZ.out] at hown3
        obtain ⟨A3, c3, rfl, _, _⟩ := slice_of_own hown3
        have hbw3 := hb.trans (hb3.mono hsz)
        have hsz3 := hbw3.size
        have HO3 := Lib.hid (own_below HO.out hb3)
        go_wp2_with (at_builtin; refine wpList_append_rd _ rfl (.tmp 19) (.tmp 24) 25 rfl w.heap.size 5 i0 (.int .u8 0) 1 1 Try.underlying25 hi hz0 hz1 hz2 rfl (by decide) _ m (bvs (flat (l.take k))) rfl HO3.out w3.heap.size A3 z c3 (bvs (Tl.one f)) rfl (Rd.of_own hown3) (bvs_one _) (by unfold maxLen; omega) (by omega) (by omega) ?_)
        intro v4 w4 hown4 hg4
        have hb4 : Below w.heap.size w w4 := hbw3.grown hg4 (by omega) (fun k hk => (HO3.out.lt k hk).1)
        clear hg4 hown3 hb3
        go_wp2
        go_roundw
        case rel =>
          refine ⟨k + 1, m + z, by omega, by go_num, by omega, ?_, ?_, hb4⟩
          · rw [HE.out, List.length_append, HML.out, HZ.out]
          · rw [HE.out, bvs_app]; exact hown4
        case measure => simp [intOf]; omega
      · obtain rfl : k = n := by omega
        have hl : l.take k = l := List.take_of_length_le (by have := HN.out; omega)
        have hown := HO.out
        have hml := HML.out
        rw [hl] at hown hml
        have HO2 := Lib.hid hown
        have HM2 := Lib.hid hml
        clear hl hown hml
        go_wp2
        go_ret2
        refine ⟨_, rfl, ?_, hb⟩
        simp only []
        rw [HM2.out]
        exact HO2.out
  · have hp := HP.out
    rw [if_pos h0] at hp
    rw [hp]
    have q : ((m : Int) != 0) = true := by rw [bne_iff_ne]; omega
    clear hp HP HM
    go_enter Try.func52, Try.ntmps52
    go_wp2_with fail
    refine HC.out.mono ?_
    rintro e w1 ⟨rfl, hb1⟩
    go_wp2
    go_ret2
    exact ⟨_, rfl, World.ownsRow_nil _ _ _ _, hb1⟩
end Go.Proofs.Ytkagonijkalicaa

/-
  Plain facts for the walks that take a row of fields, and rows of fields whose bytes lie in memory of the call's own.
-/
namespace Go.Proofs.Ytkagonijkalicaa
open Go.RowKit
open Tl (Fel falls takeGo takeRow fieldOf)
open Tg (ttake tskip okTag okTag_iff ttake_back T4)
open Vi (take take_back)

theorem take_parts {bs : List Nat} {s : Nat} (hb : ∀ c ∈ bs, c < 256) (h : tskip bs = (s, 0)) :
    ∃ num wire at_ x k, ttake bs = ⟨num, wire, at_, 0⟩ ∧ take (bs.drop at_) = (x, k, 0) ∧ num ≤ 1000 ∧ (wire = 0 ∨ wire = 2) ∧ at_ + k ≤ s ∧ s ≤ bs.length ∧ 1 ≤ s ∧ x < 18446744073709551616 ∧
      fieldOf bs = if wire = 0 then ⟨num, 0, x, []⟩ else ⟨num, 2, 0, (bs.take s).drop (at_ + k)⟩ := by
  obtain ⟨h1, h2, _, _, _, _⟩ := Tl.fieldOf_back hb h
  have hs : (tskip bs).1 = s := by rw [h]
  unfold tskip at h
  split at h
  · rename_i he; exact absurd (congrArg Prod.snd h) he
  rename_i he
  obtain ⟨hok, h3, hsl, h10, _⟩ := ttake_back hb (Decidable.not_not.1 he)
  split at h
  · rename_i hx; exact absurd (congrArg Prod.snd h) hx
  rename_i hx
  obtain ⟨num, wire, size, err, hT⟩ : ∃ a b c d, ttake bs = ⟨a, b, c, d⟩ := ⟨_, _, _, _, rfl⟩
  obtain ⟨x, k, ex, hX⟩ : ∃ x k e, take (bs.drop (ttake bs).size) = (x, k, e) := ⟨_, _, _, rfl⟩
  rw [hX, hT] at h
  rw [hX] at hx
  rw [hT] at hok hX he
  simp only [] at h hx hok hX he
  obtain rfl : err = 0 := Decidable.not_not.1 he
  obtain rfl : ex = 0 := Decidable.not_not.1 hx
  have hbd : ∀ c ∈ bs.drop size, c < 256 := fun c hc => hb c (List.mem_of_mem_drop hc)
  obtain ⟨x1, x2, x3, x4⟩ := take_back _ x k hbd hX
  have hokk := okTag_iff.1 hok
  have hwire : wire = 0 ∨ wire = 2 := by omega
  refine ⟨num, wire, size, x, k, hT, hX, by omega, hwire, ?_, h2, h1, x1, ?_⟩
  · by_cases hw : wire = 0
    · rw [if_pos hw] at h; have := congrArg Prod.fst h; simp only at this; omega
    · rw [if_neg hw] at h
      split at h
      · cases h
      split at h
      · cases h
      · have := congrArg Prod.fst h; simp only at this; omega
  · unfold fieldOf
    rw [hs, hT]
    simp only []
    rw [hX]
    rcases hwire with rfl | rfl
    · rfl
    · rfl

/-- Fields taken, and what is taken behind them. -/
def acc (F : List Fel) (r : List Fel × Nat) : List Fel × Nat := if r.2 ≠ 0 then ([], r.2) else (F ++ r.1, 0)
theorem acc_nil (r : List Fel × Nat) (h : r.2 ≠ 0 → r.1 = []) : acc [] r = r := by
  unfold acc
  obtain ⟨a, e⟩ := r
  split
  · rename_i h1; simp only at h h1 ⊢; rw [h h1]
  · rename_i h1; simp at h1; simp [h1]
theorem acc_acc (F G : List Fel) (r : List Fel × Nat) : acc F (acc G r) = acc (F ++ G) r := by
  obtain ⟨a, e⟩ := r
  by_cases h : e = 0
  · subst h; simp [acc]
  · simp [acc, h]
theorem acc_bad {F : List Fel} {e : Nat} (h : e ≠ 0) : acc F ([], e) = ([], e) := by unfold acc; rw [if_pos h]
theorem takeGo_go {k : Nat} {p : Option Fel} {bs : List Nat} {s : Nat} (hs : tskip bs = (s, 0)) (hne : bs ≠ []) (hf : p.any (falls · (fieldOf bs)) = false) :
    takeGo (k + 1) p bs = acc [fieldOf bs] (takeGo k (some (fieldOf bs)) (bs.drop s)) := by
  rw [Tl.takeGo_step hs hne, if_neg (by rw [hf]; decide)]
  unfold acc
  split
  · rfl
  · rfl
theorem takeGo_falls {k : Nat} {p : Option Fel} {bs : List Nat} {s : Nat} (hs : tskip bs = (s, 0)) (hne : bs ≠ []) (hf : p.any (falls · (fieldOf bs)) = true) : takeGo (k + 1) p bs = ([], 5) := by
  rw [Tl.takeGo_step hs hne, if_pos hf]
theorem takeGo_end (k : Nat) (p : Option Fel) : takeGo k p [] = ([], 0) := by cases k <;> rfl

/-- 'b[lo:hi]', the address under one name. -/
theorem run_sub {P : Program} (t e : TypeId) (i : TypeInfo) (size : Nat) (ht : P.underlying t = some (.slice e)) (hi : P.info? e = some i) (hs : i.size = size) (A : Option Addr) (n c lo hh : Nat) (kl kh : IntKind) (h1 : lo ≤ hh) (h2 : hh ≤ c) (w : World) :
    (Instr.sliceAt t (.slice A n c) (some (.int kl (lo : Int))) (some (.int kh (hh : Int))) none).run P w = .ok (.slice (cutAt A c size lo) (hh - lo) (c - lo)) w := by
  have he : P.elem t = e := by simp [Program.elem, ht]
  have ht' : P.underlying t = some (.slice (P.elem t)) := by rw [he]; exact ht
  rw [run_sliceAt_slice w t _ _ _ _ ht', run_slice_lh w t A n c ht' kl kh lo hh (by omega) (by omega) (by omega), he]
  simp [sizeOf, typeInfo, hi, hs, sliced, cutAt, Result.andThen]
theorem Rd.bytes_sub {w : World} {B n lo hh c : Nat} {A : Option Addr} {bs : List Nat} (h : Rd w B 1 A n (bvs bs)) (h1 : lo ≤ hh) (h2 : hh ≤ n) (h3 : n ≤ c) : Rd w B 1 (cutAt A c 1 lo) (hh - lo) (bvs ((bs.take hh).drop lo)) :=
  (h.bytes_to h2).bytes_from h1 (by omega)

theorem own_at {w : World} {base : Nat} {e : TypeId} {size n m c : Nat} {A : Option Addr} {xs : List Value} (h : w.ownsRow base e size (.slice A m c) n xs) : ∀ ad, A = some ad → base ≤ ad.block := by
  rintro ad rfl
  rcases h.2 with ⟨hv, _⟩ | ⟨g, cap, cur, hv, hb, _⟩
  · cases hv
  · cases hv; exact hb
theorem Rd.grown {w w' : World} {B size n : Nat} {A : Option Addr} {xs : List Value} {row : Option Nat} (h : Rd w B size A n xs) (hB : B ≤ w.heap.size) (hg : w.grownBy w' row) (hne : n = 0 ∨ ∀ ad : Addr, A = some ad → some ad.block ≠ row) : Rd w' B size A n xs := by
  obtain ⟨hl, h0 | ⟨ad, rfl, hb, hc⟩⟩ := h
  · exact ⟨hl, .inl h0⟩
  · rcases hne with h0 | hne
    · exact ⟨hl, .inl h0⟩
    refine ⟨hl, .inr ⟨ad, rfl, hb, fun j u hu => ?_⟩⟩
    have hk := hc j u hu
    rw [← hk]
    exact World.cell?_of_block (w := w) (a := ad.add j) (hg.block _ (by rw [add_block]; omega) (by rw [add_block]; exact hne ad rfl))

/-- Where the bytes of a row's fields lie: none of them in block g. -/
def Lie (w : World) (g : Nat) (F : List Fel) (T : List (Option Addr × Nat)) : Prop :=
  ∀ (k : Nat) (f : Fel) (s : Option Addr × Nat), F[k]? = some f → T[k]? = some s → Rd w w.heap.size 1 s.1 f.b.length (bvs f.b) ∧ f.b.length ≤ s.2 ∧ s.2 ≤ 9223372036854775807 ∧ (f.b.length = 0 ∨ ∀ ad : Addr, s.1 = some ad → ad.block ≠ g)
theorem Lie.nil (w : World) (g : Nat) : Lie w g [] [] := fun k f s h => by simp at h
theorem Lie.below {w w' : World} {g : Nat} {F : List Fel} {T : List (Option Addr × Nat)} (h : Lie w g F T) (hb : Below w.heap.size w w') : Lie w' g F T := fun k f s hf hs => by
  obtain ⟨h1, h2, h3, h4⟩ := h k f s hf hs
  exact ⟨(h1.below hb).more hb.size, h2, h3, h4⟩
theorem Lie.snoc {w : World} {g : Nat} {F : List Fel} {T : List (Option Addr × Nat)} (h : Lie w g F T) (hl : T.length = F.length) {f : Fel} {s : Option Addr × Nat} (h1 : Rd w w.heap.size 1 s.1 f.b.length (bvs f.b)) (h2 : f.b.length ≤ s.2) (h3 : s.2 ≤ 9223372036854775807)
    (h4 : f.b.length = 0 ∨ ∀ ad : Addr, s.1 = some ad → ad.block ≠ g) : Lie w g (F ++ [f]) (T ++ [s]) := fun k f' s' hf hs => by
  by_cases hk : k < F.length
  · rw [List.getElem?_append_left hk] at hf
    rw [List.getElem?_append_left (by omega)] at hs
    exact h k f' s' hf hs
  · have hk2 := (List.getElem?_eq_some_iff.1 hf).1
    rw [List.length_append, List.length_singleton] at hk2
    obtain rfl : k = F.length := by omega
    rw [List.getElem?_append_right (Nat.le_refl _), Nat.sub_self] at hf
    rw [List.getElem?_append_right (by omega), hl, Nat.sub_self] at hs
    simp at hf hs
    subst hf hs
    exact ⟨h1, h2, h3, h4⟩
theorem Lie.grown {w w' : World} {g g' : Nat} {F : List Fel} {T : List (Option Addr × Nat)} {o : Obj} (h : Lie w g F T) (hg : (w.alloc o).grownBy w' (some g)) (hat : some g = some g' ∨ g' = w.heap.size + 1) : Lie w' g' F T := fun k f s hf hs => by
  obtain ⟨h1, h2, h3, h4⟩ := h k f s hf hs
  have h5 := (h1.alloc (Nat.le_refl _) o).grown (by simp) hg (h4.imp id fun h4 ad had he => h4 ad had (by injection he))
  have hsz : w.heap.size ≤ w'.heap.size := by have := hg.size; simp at this; omega
  refine ⟨h5.more hsz, h2, h3, ?_⟩
  by_cases h0 : f.b.length = 0
  · exact .inl h0
  · right
    intro ad had
    rcases hat with hat | hat
    · injection hat with hat
      rw [← hat]
      exact (h4.resolve_left h0) ad had
    · rcases h1.2 with hz | ⟨ad', hA, hlt, _⟩
      · exact absurd hz h0
      · rw [had] at hA
        cases hA
        omega
end Go.Proofs.Ytkagonijkalicaa
