/-
  The walk of the reference's one: a field laid down.
-/
import Derived.Test.YtmcbifdfpaooaaaTlFalls
import Derived.Test.YtmcbifdfpaooaaaTgRPut
import Derived.Test.YtmcbifdfpaooaaaSteady
import Derived.Test.YtmcbifdfpaooaaaApp
import Derived.Deep.DeepCutAuto
import Derived.BigQuiet
import Derived.Deep.AppendLies
namespace Go.Proofs.Ytmcbifdfpaooaaa
open Go.RowKit
open Tl (Fel)
open Tg (tput tput_byte tput_ok tput_no tput_len okTag rput_tag)
open Vi (put put_len put_byte rput_int)

/-- What a field may hold, and how long its bytes are. -/
def Fok (f : Fel) : Prop := f.wf ∧ -9223372036854775808 ≤ f.num ∧ f.num ≤ 9223372036854775807 ∧ -9223372036854775808 ≤ f.wire ∧ f.wire ≤ 9223372036854775807 ∧ f.b.length ≤ 17000

theorem own_base {w : World} {base base' : Nat} {e : TypeId} {size n : Nat} {v : Value} {xs : List Value} (h : w.ownsRow base e size v n xs) (hb : base' ≤ base) : w.ownsRow base' e size v n xs := by
  refine ⟨h.1, ?_⟩
  rcases h.2 with hn | ⟨g, cap, cur, hv, hbg, rest⟩
  · exact .inl hn
  · exact .inr ⟨g, cap, cur, hv, Nat.le_trans hb hbg, rest⟩
theorem tput_small (num wire : Int) : (tput num wire).1.length ≤ 2 := by
  cases h : okTag num wire with
  | false => rw [tput_no h]; simp
  | true => rw [tput_len h]; split <;> omega
theorem one_small {f : Fel} : (Tl.one f).length ≤ 12 + f.b.length := by
  unfold Tl.one
  have h1 := tput_small f.num f.wire
  have h2 := put_len f.n
  have h3 := put_len f.b.length
  rw [List.length_append]
  split
  · omega
  · rw [List.length_append]; omega

set_option maxHeartbeats 4000000 in
set_option maxRecDepth 100000 in
theorem one_any (f : Fel) (s : Option Addr × Nat) (w : World) (hf : Fok f) (hr : Rd w w.heap.size 1 s.1 f.b.length (bvs f.b)) (hs1 : f.b.length ≤ s.2) (hs2 : s.2 ≤ 9223372036854775807) :
    Calls Try.prog 24 #[aggOf f s] w (NewBytes w (Tl.one f)) := by
  obtain ⟨i0, hi, hz0, hz1, hz2⟩ := info_parts byte_info
  obtain ⟨⟨hn64, hfb⟩, n0, n1, k0, k1, hb17⟩ := hf
  unfold aggOf
  obtain ⟨w0, hw0⟩ : ∃ w0 : World, w0 = w.alloc (.cells #[.int .i64 f.num, .int .i64 f.wire, .int .u64 (f.n : Int), .slice s.1 f.b.length s.2] 39) := ⟨_, rfl⟩
  have hk0 : Blk w0 w.heap.size 39 #[.int .i64 f.num, .int .i64 f.wire, .int .u64 (f.n : Int), .slice s.1 f.b.length s.2] := by rw [hw0]; exact Blk.new _ _ _
  have hb0 : Below w.heap.size w w0 := by rw [hw0]; exact (Below.refl _ _).alloc (Nat.le_refl _) _
  have hs0 : w.heap.size < w0.heap.size := by rw [hw0]; simp
  have hr0 := (hr.below hb0).more (Nat.le_of_lt hs0)
  have HW := Lib.hid hw0
  have HR := Lib.hid hr0
  have HK := Lib.hid hk0
  have HB := Lib.hid hfb
  clear hw0 hr hr0 hk0 hfb
  have hts := tput_small f.num f.wire
  obtain ⟨tb, htb⟩ : ∃ tb, (tput f.num f.wire).1 = tb := ⟨_, rfl⟩
  have hone : Tl.one f = tb ++ if f.wire = 0 then put f.n else put f.b.length ++ f.b := by rw [← htb]; rfl
  rw [htb] at hts
  obtain ⟨m, hm⟩ : ∃ m, tb.length = m := ⟨_, rfl⟩
  rw [hm] at hts
  have HT := Lib.hid htb
  have HM := Lib.hid hm
  have HO := Lib.hid hone
  clear htb hm hone
  go_enter Try.func24, Try.ntmps24
  go_wp2_with fail
  rw [← HW.out]
  refine (rput_tag f.num f.wire w0 n0 n1 k0 k1).mono ?_
  rintro e w1 ⟨v1, rfl, hown1, hb1⟩
  rw [HT.out] at hown1
  rw [HM.out] at hown1
  obtain ⟨A1, d1, rfl, hd1, hd12⟩ := slice_of_own hown1
  have HO0 := Lib.hid hown1
  have HO1 := Lib.hid (own_base hown1 (Nat.le_of_lt hs0))
  have hsz01 := hb1.size
  have hbw1 := hb0.trans (hb1.mono (Nat.le_of_lt hs0))
  have hk1 := HK.out.below hb1 hs0
  have HR1 := Lib.hid (HR.out.below hb1)
  have hs1w := hk1.lt
  have c1 := hk1.cell 1
  have c2 := hk1.cell 2
  have c3 := hk1.cell 3
  simp at c1 c2 c3
  clear hown1 hk1 HR HK HW hb1 hb0
  have hsz := hbw1.size
  by_cases hw0 : f.wire = 0
  · have hone := HO.out
    rw [if_pos hw0] at hone
    have HO2 := Lib.hid hone
    have q : (f.wire == 0) = true := by rw [hw0]; rfl
    clear hone hw0
    go_wp2_with fail
    refine (rput_int (f.n : Int) w1 (by omega) (by omega)).mono ?_
    rintro e w2 ⟨v2, rfl, hown2, hb2⟩
    rw [Int.toNat_natCast] at hown2
    obtain ⟨A2, d2, rfl, hd2, hd22⟩ := slice_of_own hown2
    have hl2 := put_len f.n
    have hbw2 := hbw1.trans (hb2.mono hsz)
    have hsz2 := hbw2.size
    go_wp2_with (at_builtin; refine wpList_append_rd _ rfl (.tmp 16) (.tmp 19) 37 rfl w.heap.size 5 i0 (.int .u8 0) 1 1 Try.underlying37 hi hz0 hz1 hz2 rfl (by decide) _ m (bvs tb) rfl (own_below HO1.out hb2) w2.heap.size A2 (put f.n).length d2 (bvs (put f.n)) rfl (Rd.of_own hown2) (bvs_one _) (by unfold maxLen; omega) (by omega) (by omega) ?_)
    intro v3 w3 hown3 hg3
    have hb3 : Below w.heap.size w w3 := hbw2.grown hg3 (by omega) (fun k hk => (HO1.out.lt k hk).1)
    go_wp2
    go_ret
    refine ⟨_, rfl, ?_, hb3⟩
    rw [HO2.out, bvs_app, List.length_append, HM.out]
    exact hown3
  · have hone := HO.out
    rw [if_neg hw0] at hone
    have HO2 := Lib.hid hone
    have q : (f.wire == 0) = false := by rw [beq_eq_false_iff_ne]; exact hw0
    clear hone hw0
    obtain ⟨L, hL⟩ : ∃ L, f.b.length = L := ⟨_, rfl⟩
    have HL := Lib.hid hL
    have hr1 := HR1.out
    rw [hL] at hr1 c3 hb17 hs1
    have HR2 := Lib.hid hr1
    have hone := HO2.out
    rw [hL] at hone
    obtain ⟨lb, hlb⟩ : ∃ lb, put L = lb := ⟨_, rfl⟩
    have hlb2 := put_len L
    rw [hlb] at hlb2 hone
    obtain ⟨ml, hml⟩ : ∃ ml, lb.length = ml := ⟨_, rfl⟩
    rw [hml] at hlb2
    have HLB := Lib.hid hlb
    have HML := Lib.hid hml
    have HO3 := Lib.hid hone
    clear hL hr1 hone hlb hml HR1 HO2
    go_upto_region 4 with fail
    clear c1 c2
    go_cut [2] (fun v wx => wx.ownsRow w0.heap.size 5 1 v (m + ml + L) (bvs tb ++ bvs lb ++ bvs f.b) ∧ Below w.heap.size w wx)
    case first =>
      have t0 : w1.drew.ownsRow w0.heap.size 5 1 (.slice A1 m d1) m (bvs tb) := HO0.out.drew
      have t4 : w0.heap.size ≤ w1.drew.heap.size := hsz01
      have t6 : (Value.int .u8 0).cells.size = 1 := rfl
      have t7 : Below w0.heap.size w1 w1.drew := (Below.refl _ _).drew
      have t8 : m + ml ≤ maxLen := by unfold maxLen; omega
      have t9 : (m + ml) * 1 ≤ 140737488355328 := by omega
      have t10 : m + ml + L ≤ maxLen := by unfold maxLen; omega
      have t11 : (m + ml + L) * 1 ≤ 140737488355328 := by omega
      have t12 : (0 : Int) ≤ (L : Int) := by omega
      have t13 : (L : Int) ≤ 18446744073709551615 := by omega
      have t14 : IntKind.u64.wrap (L : Int) = (L : Int) := by rw [IntKind.wrap_u64]; omega
      go_region_held3 (fun w' => w'.cell? ⟨w.heap.size, 3, none⟩ = some (.slice s.1 L s.2)) (go_keep)
        (first
          | (fail_if_success (have gg := hown8)
             go_at_call 32
             refine (rput_int (L : Int) _ t12 t13).mono ?_
             rintro e w8 ⟨v8, rfl, hown8, hb8⟩
             replace hown8 : w8.ownsRow w1.heap.size 5 1 v8 ml (bvs lb) := by have h1 := hown8; simp only [Int.toNat_natCast, HLB.out, HML.out] at h1; exact h1
             obtain ⟨A8, c8, rfl, hc8, hc82⟩ := slice_of_own hown8
             have r8 := Rd.of_own hown8
             have h18 : Below w1.heap.size w1 w8 := (Below.refl _ w1).drew.trans hb8
             have hown77 : w8.ownsRow w0.heap.size 5 1 (.slice A1 m d1) m (bvs tb) := own_below HO0.out h18
             have t15 : w0.heap.size ≤ w8.heap.size := Nat.le_trans hsz01 h18.size
             have hb88 : Below w0.heap.size w1 w8 := h18.mono hsz01
             have f8 : w8.cell? ⟨w.heap.size, 3, none⟩ = some (.slice s.1 L s.2) := (hb88.cell (p := ⟨w.heap.size, 3, none⟩) hs0).trans c3
             clear hb8)
          | (fail_if_success (have gg := hown9)
             refine step_append_rd (by rfl) (.tmp 21) (.tmp 26) 37 (by rfl) w0.heap.size 5 i0 (.int .u8 0) 1 1 Try.underlying37 hi hz0 hz1 hz2 t6 (by decide) (.slice A1 m d1) m (bvs tb) ?g1 hown77 w8.heap.size A8 ml c8 (bvs lb) ?g2 r8 (bvs_one _) t8 t9 t15 ?_
             case g1 => rfl
             case g2 => rfl
             intro v9 w9 hown9 hg9
             have hb9 : Below w0.heap.size w1 w9 := hb88.grown hg9 t15 (fun k hk => (hown77.lt k hk).1)
             have f9 : w9.cell? ⟨w.heap.size, 3, none⟩ = some (.slice s.1 L s.2) := (hb9.cell (p := ⟨w.heap.size, 3, none⟩) hs0).trans c3
             have r9 : Rd w9 w0.heap.size 1 s.1 L (bvs f.b) := HR2.out.below hb9
             have t16 : w0.heap.size ≤ w9.heap.size := Nat.le_trans hsz01 hb9.size
             clear hg9)
          | (fail_if_success (have gg := hown10)
             refine step_append_rd (by rfl) (.tmp 27) (.tmp 29) 37 (by rfl) w0.heap.size 5 i0 (.int .u8 0) 1 1 Try.underlying37 hi hz0 hz1 hz2 t6 (by decide) v9 (m + ml) (bvs tb ++ bvs lb) ?g1 hown9 w0.heap.size s.1 L s.2 (bvs f.b) ?g2 r9 (bvs_one _) t10 t11 t16 ?_
             case g1 => rfl
             case g2 => rfl
             intro v10 w10 hown10 hg10
             have hb10 : Below w0.heap.size w1 w10 := hb9.grown hg10 t16 (fun k hk => (hown9.lt k hk).1)
             have f10 : w10.cell? ⟨w.heap.size, 3, none⟩ = some (.slice s.1 L s.2) := (hb10.cell (p := ⟨w.heap.size, 3, none⟩) hs0).trans c3
             clear hg10)
          | fail)
      go_wp2
      go_meet
      case rel => exact ⟨hown10, hbw1.trans (hb10.mono (Nat.le_of_lt hs0))⟩
    case rest =>
      obtain ⟨hown, hbw⟩ := hcut
      go_wp2
      go_ret
      refine ⟨_, rfl, ?_, hbw⟩
      have e : Tl.one f = tb ++ lb ++ f.b := by rw [HO3.out, List.append_assoc]
      rw [e, bvs_app, bvs_app, List.length_append, List.length_append, HM.out, HML.out, HL.out]
      exact own_base hown (Nat.le_of_lt hs0)
end Go.Proofs.Ytmcbifdfpaooaaa
