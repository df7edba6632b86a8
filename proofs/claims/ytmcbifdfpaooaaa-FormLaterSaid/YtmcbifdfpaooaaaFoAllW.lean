/-
  The walks of the laws FormAll and FormOwn.
-/
import Derived.Test.YtmcbifdfpaooaaaFoShown
import Derived.Test.YtmcbifdfpaooaaaFoSame
namespace Go.Proofs.Ytmcbifdfpaooaaa
open Go.RowKit
open Fo (Spc specAll specs inv top check)
open Tl (Fel)

theorem few4_row (A : Option Addr) (n c : Nat) (l : List Fel) (S : List (Option Addr × Nat)) (w : World) (h : RdF w w.heap.size A n l S) (hnc : n ≤ c) (hmax : c ≤ 9223372036854775807) (m : Nat) (hm : (few4 l).length = m) :
    Calls Try.prog 15 #[.slice A n c] w fun e w' => ∃ (A' : Option Addr) (c' : Nat), e = .returned (.slice A' m c') ∧ m ≤ c' ∧ c' ≤ 9223372036854775807 ∧ RdF w' w'.heap.size A' m (few4 l) (S.take 60) ∧ Below w.heap.size w w' := by
  have hln := h.1
  have hfl := few4_len l
  have hSl : (S.take 60).length = m := by rw [List.length_take, h.2.1, ← hm, hfl, hln]
  refine (fewf_any A n c l S w h hnc hmax).mono ?_
  rintro e w' ⟨v, rfl, hown, hb⟩
  rw [hm] at hown
  obtain ⟨A2, c2, rfl, hc2, hc22, hr2⟩ := RdF.of_own hown hm hSl hb.size (fun k f s hf hs => few4_rd h hb k f s hf hs)
  exact ⟨A2, c2, rfl, hc2, hc22, hr2, hb⟩

set_option maxHeartbeats 4000000 in
set_option maxRecDepth 100000 in
theorem fall_any (k v : Int) (A : Option Addr) (n c : Nat) (l : List Fel) (S : List (Option Addr × Nat)) (w : World) (k0 : -9223372036854775808 ≤ k) (k1 : k ≤ 9223372036854775807) (v0 : -9223372036854775808 ≤ v) (v1 : v ≤ 9223372036854775807)
    (h : RdF w w.heap.size A n l S) (hnc : n ≤ c) (hmax : c ≤ 9223372036854775807) (hw : ∀ f ∈ l, Fin4 f) :
    Calls Try.prog 3 #[.int .i64 k, .int .i64 v, .slice A n c] w fun e w' => e = .returned (.bool true) ∧ Below w.heap.size w w' := by
  have HR := Lib.hid h
  have hok := few4_ok hw
  obtain ⟨lf, hlf⟩ : ∃ lf, few4 l = lf := ⟨_, rfl⟩
  obtain ⟨m, hm⟩ : ∃ m, lf.length = m := ⟨_, rfl⟩
  have hm60 : m ≤ 60 := by rw [← hm, ← hlf, few4_len]; omega
  rw [hlf] at hok
  have hfew := fun w' (h' : RdF w' w'.heap.size A n l S) => few4_row A n c l S w' h' hnc hmax m (by rw [hlf]; exact hm)
  rw [hlf] at hfew
  have HFEW := Lib.hid hfew
  have HOK := Lib.hid hok
  have h1 := fun w => specs_rec k v w k0 k1 v0 v1
  have h2 := fun w => rspecs_any k v w k0 k1 v0 v1
  have h3 := fun w => top_rec k v w k0 k1 v0 v1
  have h4 := fun w => rtop_any k v w k0 k1 v0 v1
  obtain ⟨L, hL⟩ : ∃ L, specs k v = L := ⟨_, rfl⟩
  rw [hL] at h1 h2
  obtain ⟨t, ht⟩ : ∃ t, top k v = t := ⟨_, rfl⟩
  rw [ht] at h3 h4
  obtain ⟨ck, hck⟩ : ∃ ck, check k v lf = ck := ⟨_, rfl⟩
  have HCK := Lib.hid hck
  have H1 := Lib.hid h1
  have H2 := Lib.hid h2
  have H3 := Lib.hid h3
  have H4 := Lib.hid h4
  clear h1 h2 h3 h4 hL ht hfew hok hlf hm h hw hck
  go_enter Try.func3, Try.ntmps3
  go_wp2_with fail
  refine (fshown_any w).mono ?_
  rintro e w1 ⟨rfl, hb1⟩
  go_wp2_with fail
  refine (H1.out w1).mono ?_
  rintro e w2 ⟨A2, n2, c2, rfl, hc2, hm2, hn2, hown2, hb2⟩
  have hbw := hb1.trans (hb2.mono hb1.size)
  have HR2 := Lib.hid (specs_get hown2 hn2)
  clear hown2 hn2 hb1 hb2
  go_wp2_with fail
  refine (H2.out w2).mono ?_
  rintro e w3 ⟨A3, n3, c3, rfl, hc3, hm3, hn3, hown3, hb3⟩
  replace hbw := hbw.trans (hb3.mono hbw.size)
  replace HR2 := Lib.hid ((HR2.out.below hb3).more hb3.size)
  have HR3 := Lib.hid (specs_get hown3 hn3)
  clear hown3 hn3 hb3
  go_wp2_with fail
  refine (rsame_any A2 A3 n2 n3 c2 c3 L L w3 HR2.out HR3.out hc2 hm2 hc3 hm3).mono ?_
  rintro e w4 ⟨d, rfl, hd, hb4⟩
  obtain rfl : d = true := hd.2 rfl
  replace hbw := hbw.trans (hb4.mono hbw.size)
  clear hd hb4 HR2 HR3
  go_wp2_with fail
  refine (H3.out w4).mono ?_
  rintro e w5 ⟨rfl, hb5⟩
  replace hbw := hbw.trans (hb5.mono hbw.size)
  clear hb5
  go_wp2_with fail
  refine (H4.out w5).mono ?_
  rintro e w6 ⟨rfl, hb6⟩
  replace hbw := hbw.trans (hb6.mono hbw.size)
  clear hb6
  go_wp2_with fail
  refine (HFEW.out w6 ((HR.out.below hbw).more hbw.size)).mono ?_
  rintro e w7 ⟨A7, c7, rfl, hc7, hm7, hr7, hb7⟩
  replace hbw := hbw.trans (hb7.mono hbw.size)
  have HR7 := Lib.hid hr7
  clear hr7 hb7
  go_wp2_with fail
  refine (check_rec k v A7 m c7 lf (S.take 60) w7 k0 k1 v0 v1 HR7.out hc7 hm7 (by omega) HOK.out).mono ?_
  rintro e w8 ⟨rfl, hb8⟩
  rw [HCK.out]
  replace hbw := hbw.trans (hb8.mono hbw.size)
  clear hb8
  go_wp2_with fail
  refine (HFEW.out w8 ((HR.out.below hbw).more hbw.size)).mono ?_
  rintro e w9 ⟨A9, c9, rfl, hc9, hm9, hr9, hb9⟩
  replace hbw := hbw.trans (hb9.mono hbw.size)
  have HR9 := Lib.hid hr9
  clear hr9 hb9
  go_wp2_with fail
  refine (rcheck_any k v A9 m c9 lf (S.take 60) w9 k0 k1 v0 v1 HR9.out hc9 hm9 (by omega) HOK.out).mono ?_
  rintro e w10 ⟨rfl, hb10⟩
  rw [HCK.out]
  replace hbw := hbw.trans (hb10.mono hbw.size)
  go_wp2
  go_ret
  exact ⟨rfl, hbw⟩
end Go.Proofs.Ytmcbifdfpaooaaa
