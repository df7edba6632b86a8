/-
  The walk of the reference's Put: a row of fields laid down.
-/
import Derived.Test.YtpbhmhagailhfaaTlMay
namespace Go.Proofs.Ytpbhmhagailhfaa
open Go.RowKit
open Tl (Fel mayGo may flat fit putRow)

theorem flat_snoc {l : List Fel} {k : Nat} {f : Fel} (h : l[k]? = some f) : flat (l.take (k + 1)) = flat (l.take k) ++ Tl.one f := by
  rw [List.take_add_one, h, Tl.flat_app]
  simp [flat]

set_option maxHeartbeats 4000000 in
set_option maxRecDepth 100000 in
theorem rput_row (A : Option Addr) (n c : Nat) (l : List Fel) (S : List (Option Addr × Nat)) (w : World) (h : RdF w w.heap.size A n l S) (hnc : n ≤ c) (hmax : c ≤ 9223372036854775807) (hn : n ≤ 20000) (hw : ∀ f ∈ l, Fok f) :
    Calls Try.prog 13 #[.slice A n c] w (NewPair w (putRow l).1 ((putRow l).2 : Nat)) := by
  obtain ⟨i0, hi, hz0, hz1, hz2⟩ := info_parts byte_info
  obtain ⟨m, hm⟩ : ∃ m, may l = m := ⟨_, rfl⟩
  have hput : putRow l = if m ≠ 0 then ([], m) else (flat l, 0) := by unfold putRow; rw [hm]
  have hm5 : m ≤ 5 := by have := Tl.may_err l; omega
  have HM := Lib.hid hm
  have HP := Lib.hid hput
  have HR := Lib.hid h
  have HN := Lib.hid h.1
  have HW := Lib.hid hw
  have hcall := rmay_any A n c l S w h hnc hmax hn hw
  rw [hm] at hcall
  have HC := Lib.hid hcall
  clear h hw hm hput hcall
  by_cases h0 : m = 0
  · have hp := HP.out
    rw [if_neg (by omega)] at hp
    rw [hp]
    have HP2 := Lib.hid hp
    clear hp HP HM
    subst h0
    go_enter Try.func13, Try.ntmps13
    go_wp2_with fail
    refine HC.out.mono ?_
    rintro e w1 ⟨rfl, hb1⟩
    have hsz1 := hb1.size
    go_wp2
    go_loopw [5, 6] (fun v i wr => ∃ (k m : Nat), k ≤ n ∧ i = .int .i64 (k : Int) ∧ m ≤ 17012 * k ∧ (flat (l.take k)).length = m ∧ wr.ownsRow w.heap.size 5 1 v m (bvs (flat (l.take k))) ∧ Below w.heap.size w wr) (fun _ i _ => n - (intOf i).toNat)
    case atStart =>
      refine ⟨0, 0, Nat.zero_le _, rfl, by omega, by simp [flat], ?_, hb1.alloc hsz1 _⟩
      have h1 := World.ownsRow_made (e := 5) (size := 1) (base := w.heap.size) w1 #[] 0 hsz1 (by unfold maxLen; omega) rfl
      simpa [flat, bvs] using h1
    case round =>
      obtain ⟨k, m, hk, rfl, hmk, hml, hown, hb⟩ := hrel
      have HO := Lib.hid hown
      have HML := Lib.hid hml
      have hsz := hb.size
      clear hown hml
      by_cases hlt : k < n
      · obtain ⟨ad, f, s, rfl, hab, hf, hs, g0, g1, g2, g3, hrd, hs1, hs2⟩ := (HR.out.below hb).spell hlt
        have hok := HW.out f (List.mem_of_getElem? hf)
        have hb17 := hok.2.2.2.2.2
        have hsm := one_small (f := f)
        have e := flat_snoc hf
        have HE := Lib.hid e
        have HOK := Lib.hid hok
        have hrd1 := hrd.more hsz
        obtain ⟨z, hz⟩ : ∃ z, (Tl.one f).length = z := ⟨_, rfl⟩
        rw [hz] at hsm
        have HZ := Lib.hid hz
        clear e hok hf hs hrd hz
        go_wp2_with fail
        refine (one_any f s wr HOK.out hrd1 hs1 hs2).mono ?_
        rintro e w3 ⟨v3, rfl, hown3, hb3⟩
        rw [HZ.out] at hown3
        obtain ⟨A3, c3, rfl, _, _⟩ := slice_of_own hown3
        have hbw3 := hb.trans (hb3.mono hsz)
        have hsz3 := hbw3.size
        have HO3 := Lib.hid (own_below HO.out hb3)
        go_wp2_with (at_builtin; refine wpList_append_rd _ rfl (.tmp 19) (.tmp 24) 23 rfl w.heap.size 5 i0 (.int .u8 0) 1 1 Try.underlying23 hi hz0 hz1 hz2 rfl (by decide) _ m (bvs (flat (l.take k))) rfl HO3.out w3.heap.size A3 z c3 (bvs (Tl.one f)) rfl (Rd.of_own hown3) (bvs_one _) (by unfold maxLen; omega) (by omega) (by omega) ?_)
        intro v4 w4 hown4 hg4
        have hb4 : Below w.heap.size w w4 := hbw3.grown hg4 (by omega) (fun k hk => (HO3.out.lt k hk).1)
        clear hg4 hown3 hb3
        go_wp2
        go_roundw
        case rel =>
          refine ⟨k + 1, m + z, by omega, by go_num, by omega, ?_, ?_, hb4⟩
          · rw [HE.out, List.length_append, HML.out, HZ.out]
          · rw [HE.out, bvs_app]; exact hown4
        case measure => simp [intOf]; omega
      · obtain rfl : k = n := by omega
        have hl : l.take k = l := List.take_of_length_le (by have := HN.out; omega)
        have hown := HO.out
        have hml := HML.out
        rw [hl] at hown hml
        have HO2 := Lib.hid hown
        have HM2 := Lib.hid hml
        clear hl hown hml
        go_wp2
        go_ret2
        refine ⟨_, rfl, ?_, hb⟩
        simp only []
        rw [HM2.out]
        exact HO2.out
  · have hp := HP.out
    rw [if_pos h0] at hp
    rw [hp]
    have q : ((m : Int) != 0) = true := by rw [bne_iff_ne]; omega
    clear hp HP HM
    go_enter Try.func13, Try.ntmps13
    go_wp2_with fail
    refine HC.out.mono ?_
    rintro e w1 ⟨rfl, hb1⟩
    go_wp2
    go_ret2
    exact ⟨_, rfl, World.ownsRow_nil _ _ _ _, hb1⟩
end Go.Proofs.Ytpbhmhagailhfaa
