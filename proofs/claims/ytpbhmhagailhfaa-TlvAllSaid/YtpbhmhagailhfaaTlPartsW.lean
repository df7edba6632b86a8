/-
  The walk of the law on a row that is parted.
-/
import Derived.Test.YtpbhmhagailhfaaTlLongW
namespace Go.Proofs.Ytpbhmhagailhfaa
open Go.RowKit
open Tl (Fel may flat putRow takeRow)

theorem few_row (A : Option Addr) (n c : Nat) (l : List Fel) (S : List (Option Addr × Nat)) (w : World) (h : RdF w w.heap.size A n l S) (hnc : n ≤ c) (hmax : c ≤ 9223372036854775807) (m : Nat) (hm : (fewL l).length = m) :
    Calls Try.prog 10 #[.slice A n c] w fun e w' => ∃ (A' : Option Addr) (c' : Nat), e = .returned (.slice A' m c') ∧ m ≤ c' ∧ c' ≤ 9223372036854775807 ∧ RdF w' w'.heap.size A' m (fewL l) (S.take 60) ∧
      w'.ownsRow w.heap.size 39 4 (.slice A' m c') m (rcells (fewL l) (S.take 60)) ∧ Below w.heap.size w w' := by
  have hln := h.1
  have hfl := fewL_len l
  have hSl : (S.take 60).length = m := by rw [List.length_take, h.2.1, ← hm, hfl, hln]
  refine (few_any A n c l S w h hnc hmax).mono ?_
  rintro e w' ⟨v, rfl, hown, hb⟩
  rw [hm] at hown
  obtain ⟨A2, c2, rfl, hc2, hc22, hr2⟩ := RdF.of_own hown hm hSl hb.size (fun k f s hf hs => fewL_rd h hb k f s hf hs)
  exact ⟨A2, c2, rfl, hc2, hc22, hr2, hown, hb⟩
theorem filter_lens (p : Fel → Bool) (l : List Fel) : (l.filter p).length + (l.filter fun f => !p f).length = l.length := by
  induction l with
  | nil => rfl
  | cons f l ih =>
    rw [List.filter_cons, List.filter_cons]
    cases p f <;> simp <;> omega
theorem put_ok {l : List Fel} (h : may l = 0) : putRow l = (flat l, 0) := by unfold putRow; rw [if_neg (by rw [h]; decide)]
theorem flat_byte {l : List Fel} (h : ∀ f ∈ l, Fok f) : ∀ c ∈ flat l, c < 256 := by
  intro c hc
  unfold flat at hc
  rw [List.mem_flatten] at hc
  obtain ⟨x, hx, hcx⟩ := hc
  obtain ⟨f, hf, rfl⟩ := List.mem_map.1 hx
  have hw := (h f hf).1
  have hl := (h f hf).2.2.2.2.2
  unfold Tl.one at hcx
  rcases List.mem_append.1 hcx with h1 | h1
  · exact Tg.tput_byte _ _ c h1
  · split at h1
    · exact Vi.put_byte _ hw.1 c h1
    · rcases List.mem_append.1 h1 with h2 | h2
      · exact Vi.put_byte _ (by omega) c h2
      · exact hw.2 c h2

set_option maxHeartbeats 4000000 in
set_option maxRecDepth 100000 in
theorem parts_any (A : Option Addr) (n c : Nat) (l : List Fel) (S : List (Option Addr × Nat)) (most : Int) (w : World) (h : RdF w w.heap.size A n l S) (hnc : n ≤ c) (hmax : c ≤ 9223372036854775807) (hw : ∀ f ∈ l, Fin f) (hm0 : -9223372036854775808 ≤ most) (hm1 : most ≤ 9223372036854775807) :
    Calls Try.prog 5 #[.slice A n c, .int .i64 most] w fun e w' => e = .returned (.bool true) ∧ Below w.heap.size w w' := by
  obtain ⟨i0, hi, hz0, hz1, hz2⟩ := info_parts byte_info
  have HR := Lib.hid h
  have hok := fewL_ok hw
  have hfl := fewL_len l
  obtain ⟨lf, hlf⟩ : ∃ lf, fewL l = lf := ⟨_, rfl⟩
  obtain ⟨m, hm⟩ : ∃ m, lf.length = m := ⟨_, rfl⟩
  have hm60 : m ≤ 60 := by rw [← hm, ← hlf, hfl]; omega
  rw [hlf] at hok
  have HOK := Lib.hid hok
  have HLF := Lib.hid hlf
  have HM := Lib.hid hm
  have hfew := fun w' (h' : RdF w' w'.heap.size A n l S) => few_row A n c l S w' h' hnc hmax m (by rw [hlf]; exact hm)
  rw [hlf] at hfew
  have HFEW := Lib.hid hfew
  clear h hfl hlf hm hok hw hfew
  go_enter Try.func5, Try.ntmps5
  go_wp2_with fail
  refine (tshown_any w).mono ?_
  rintro e w1 ⟨rfl, hb1⟩
  have hs1 := hb1.size
  go_wp2_with fail
  refine (HFEW.out w1 ((HR.out.below hb1).more hs1)).mono ?_
  rintro e w2 ⟨A2, c2, rfl, hc2, hc22, hr2, _, hb2⟩
  have hbw2 := hb1.trans (hb2.mono hs1)
  have HR2 := Lib.hid hr2
  clear hr2 hb1 hb2 hs1
  have hs2 := hbw2.size
  go_wp2_with fail
  refine (split_row A2 m c2 most lf (S.take 60) w2 HR2.out hc2 hc22 (by omega) HOK.out ⟨hm0, hm1⟩).mono ?_
  rintro e w3 ⟨va, vb, rfl, ha, hb, hb3⟩
  have hlens := filter_lens (fun f => decide (f.num ≤ most)) lf
  have hsplit := fun h => Tl.split_may (l := lf) most h
  have ha2 : ∀ f ∈ lf.filter (fun f => decide (f.num ≤ most)), Fok f ∧ f.num ≤ most := fun f hf => by
    rw [List.mem_filter] at hf
    exact ⟨HOK.out f hf.1, by simpa using hf.2⟩
  have hb2 : ∀ f ∈ lf.filter (fun f => !decide (f.num ≤ most)), Fok f ∧ ¬ f.num ≤ most := fun f hf => by
    rw [List.mem_filter] at hf
    exact ⟨HOK.out f hf.1, by simpa using hf.2⟩
  obtain ⟨la, hla⟩ : ∃ la, lf.filter (fun f => decide (f.num ≤ most)) = la := ⟨_, rfl⟩
  obtain ⟨lb, hlb⟩ : ∃ lb, lf.filter (fun f => !decide (f.num ≤ most)) = lb := ⟨_, rfl⟩
  rw [hla] at ha ha2 hlens
  rw [hlb] at hb hb2 hlens
  rw [HM.out] at hlens
  simp only [hla, hlb] at hsplit
  obtain ⟨Aa, na, ca, Sa, rfl, hca, hca2, hra⟩ := ha
  obtain ⟨Ab, nb, cb, Sb, rfl, hcb, hcb2, hrb⟩ := hb
  rw [hra.1, hrb.1] at hlens
  have HRA := Lib.hid hra
  have HRB := Lib.hid hrb
  have HA2 := Lib.hid ha2
  have HB2 := Lib.hid hb2
  have HSP := Lib.hid hsplit
  have hbw3 := hbw2.trans (hb3.mono hs2)
  have HR3 := Lib.hid ((HR2.out.below hb3).more hb3.size)
  have q1 : ((na : Int) + (nb : Int) != (m : Int)) = false := by
    have : (na : Int) + (nb : Int) = (m : Int) := by omega
    rw [this]; simp
  clear hra hrb ha2 hb2 hsplit hla hlb hbw2 hb3 hs2 HR2 HFEW
  go_wp2
  go_loop [8] (fun i => ∃ k : Nat, k ≤ na ∧ i = .int .i64 (k : Int)) (fun i => na - (intOf i).toNat)
  case atStart => exact ⟨0, Nat.zero_le _, rfl⟩
  case round =>
    obtain ⟨k, hk, rfl⟩ := hrel
    by_cases hlt : k < na
    · obtain ⟨ad, f, s, rfl, hab, hf, hs, g0, g1, g2, g3, hrd, hs1, hs2⟩ := HRA.out.spell hlt
      have hle : f.num ≤ most := (HA2.out f (List.mem_of_getElem? hf)).2
      have hgt : ¬ most < f.num := by omega
      clear hf hs hrd
      go_wp2
      go_round
      case rel => exact ⟨k + 1, by omega, by go_num⟩
      case measure => simp [intOf]; omega
    · obtain rfl : k = na := by omega
      go_wp2
      go_loop [9] (fun i => ∃ j : Nat, j ≤ nb ∧ i = .int .i64 (j : Int)) (fun i => nb - (intOf i).toNat)
      case atStart => exact ⟨0, Nat.zero_le _, rfl⟩
      case round =>
        obtain ⟨j, hj, rfl⟩ := hrel
        by_cases hlt2 : j < nb
        · obtain ⟨ad, f, s, rfl, hab, hf, hs, g0, g1, g2, g3, hrd, hs1, hs2⟩ := HRB.out.spell hlt2
          have hle : most < f.num := by have := (HB2.out f (List.mem_of_getElem? hf)).2; omega
          have hgt : ¬ f.num ≤ most := by omega
          clear hf hs hrd
          go_wp2
          go_round
          case rel => exact ⟨j + 1, by omega, by go_num⟩
          case measure => simp [intOf]; omega
        · obtain rfl : j = nb := by omega
          have hs3 := hbw3.size
          obtain ⟨er, her⟩ : ∃ er, may lf = er := ⟨_, rfl⟩
          have herr := Tl.may_err lf
          rw [her] at herr
          have HER := Lib.hid her
          have hmay := may_row A2 m c2 lf (S.take 60) w3 HR3.out hc2 hc22 (by omega) HOK.out
          rw [her] at hmay
          have HMAY := Lib.hid hmay
          have HOA := Lib.hid (fun f hf => (HA2.out f hf).1)
          have HOB := Lib.hid (fun f hf => (HB2.out f hf).1)
          clear her hmay
          by_cases h0 : er = 0
          · obtain ⟨ma, mb, hfl⟩ := HSP.out (by rw [HER.out, h0])
            have hml : may lf = 0 := by rw [HER.out, h0]
            have hla := (Tl.may_zero.1 ma).2
            have hlb := (Tl.may_zero.1 mb).2
            have hyA := flat_byte HOA.out
            have hyB := flat_byte HOB.out
            subst h0
            obtain ⟨fa, hfa⟩ : ∃ fa, flat la = fa := ⟨_, rfl⟩
            obtain ⟨fb, hfb⟩ : ∃ fb, flat lb = fb := ⟨_, rfl⟩
            rw [hfa] at hfl hla hyA
            rw [hfb] at hfl hlb hyB
            have pa := put_ok ma
            have pb := put_ok mb
            have pl := put_ok hml
            rw [hfa] at pa
            rw [hfb] at pb
            rw [← hfl] at pl
            obtain ⟨xa, hxa⟩ : ∃ xa, fa.length = xa := ⟨_, rfl⟩
            obtain ⟨xb, hxb⟩ : ∃ xb, fb.length = xb := ⟨_, rfl⟩
            rw [hxa] at hla
            rw [hxb] at hlb
            have HXA := Lib.hid hxa
            have HXB := Lib.hid hxb
            have HPA := Lib.hid pa
            have HPB := Lib.hid pb
            have HPL := Lib.hid pl
            have hyC : ∀ c ∈ fa ++ fb, c < 256 := fun c hc => (List.mem_append.1 hc).elim (hyA c) (hyB c)
            have HYC := Lib.hid hyC
            clear ma mb hml hfl hfa hfb hyA hyB pa pb pl hxa hxb HSP HER hyC
            go_wp2_with fail
            refine HMAY.out.mono ?_
            rintro e w4 ⟨rfl, hb4⟩
            have hbw4 := hbw3.trans (hb4.mono hs3)
            have RA4 := Lib.hid ((HRA.out.below hb4).more hb4.size)
            have RB4 := Lib.hid ((HRB.out.below hb4).more hb4.size)
            have RL4 := Lib.hid ((HR3.out.below hb4).more hb4.size)
            have hs4 := hbw4.size
            clear hb4 HMAY HRA HRB HR3
            go_wp2_with fail
            refine (put_row Aa k ca la Sa w4 RA4.out hca hca2 (by omega) HOA.out).mono ?_
            rintro e w5 ⟨v5, rfl, hown5, hb5⟩
            rw [HPA.out] at hown5 ⊢
            replace hown5 : w5.ownsRow w4.heap.size 5 1 v5 xa (bvs fa) := by have h1 := hown5; simp only [HXA.out] at h1; exact h1
            obtain ⟨A5, c5, rfl, hc5, hc52⟩ := slice_of_own hown5
            have hbw5 := hbw4.trans (hb5.mono hs4)
            have RB5 := Lib.hid ((RB4.out.below hb5).more hb5.size)
            have RL5 := Lib.hid ((RL4.out.below hb5).more hb5.size)
            have RX5 := Lib.hid (Rd.of_own hown5)
            have hs5 := hbw5.size
            clear hown5 hb5 RA4 RB4 RL4
            go_wp2_with fail
            refine (put_row Ab j cb lb Sb w5 RB5.out hcb hcb2 (by omega) HOB.out).mono ?_
            rintro e w6 ⟨v6, rfl, hown6, hb6⟩
            rw [HPB.out] at hown6 ⊢
            replace hown6 : w6.ownsRow w5.heap.size 5 1 v6 xb (bvs fb) := by have h1 := hown6; simp only [HXB.out] at h1; exact h1
            obtain ⟨A6, c6, rfl, hc6, hc62⟩ := slice_of_own hown6
            have hbw6 := hbw5.trans (hb6.mono hs5)
            have RL6 := Lib.hid ((RL5.out.below hb6).more hb6.size)
            have RX6 := Lib.hid ((RX5.out.below hb6).more hb6.size)
            have RY6 := Lib.hid (Rd.of_own hown6)
            have hs6 := hbw6.size
            clear hown6 hb6 RB5 RL5 RX5
            go_wp2_with fail
            refine (put_row A2 _ c2 lf (S.take 60) w6 RL6.out hc2 hc22 (by omega) HOK.out).mono ?_
            rintro e w7 ⟨v7, rfl, hown7, hb7⟩
            rw [HPL.out] at hown7 ⊢
            replace hown7 : w7.ownsRow w6.heap.size 5 1 v7 (xa + xb) (bvs (fa ++ fb)) := by have h1 := hown7; simp only [List.length_append, HXA.out, HXB.out] at h1; exact h1
            obtain ⟨A7, c7, rfl, hc7, hc72⟩ := slice_of_own hown7
            have hbw7 := hbw6.trans (hb7.mono hs6)
            have RX7 := Lib.hid ((RX6.out.below hb7).more hb7.size)
            have RY7 := Lib.hid ((RY6.out.below hb7).more hb7.size)
            have RZ7 := Lib.hid (Rd.of_own hown7)
            have hs7 := hbw7.size
            clear hown7 hb7 RL6 RX6 RY6
            go_wp2_with (at_builtin; refine wpList_append_rd _ rfl (.tmp 79) (.tmp 80) 23 rfl w7.heap.size 5 i0 (.int .u8 0) 1 1 Try.underlying23 hi hz0 hz1 hz2 rfl (by decide) _ 0 [] rfl (World.ownsRow_made (e := 5) w7 #[] 0 (Nat.le_refl _) (by unfold maxLen; omega) rfl) w7.heap.size A5 xa c5 (bvs fa) rfl (RX7.out.alloc (Nat.le_refl _) _) (bvs_one _) (by unfold maxLen; omega) (by omega) (by simp) ?_)
            intro v8 w8 hown8 hg8
            have hb8 : Below w7.heap.size w7 w8 := ((Below.refl _ _).alloc (Nat.le_refl _) _).grown hg8 (by simp) (fun k hk => by simp [Value.ownBlock] at hk; omega)
            have hs8 := hb8.size
            have RY8 := Lib.hid (RY7.out.below hb8)
            have HO8 := Lib.hid hown8
            clear hown8 hg8
            go_wp2_with (at_builtin; refine wpList_append_rd _ rfl (.tmp 81) (.tmp 82) 23 rfl w7.heap.size 5 i0 (.int .u8 0) 1 1 Try.underlying23 hi hz0 hz1 hz2 rfl (by decide) _ xa (bvs fa) rfl HO8.out w7.heap.size A6 xb c6 (bvs fb) rfl RY8.out (bvs_one _) (by unfold maxLen; omega) (by omega) hs8 ?_)
            intro v9 w9 hown9 hg9
            have hb9 : Below w7.heap.size w7 w9 := hb8.grown hg9 hs8 (fun k hk => (HO8.out.lt k hk).1)
            rw [← bvs_app] at hown9
            obtain ⟨A9, c9, rfl, hc9, hc92⟩ := slice_of_own hown9
            have r9 := Rd.of_own hown9
            have r7 := (RZ7.out.below hb9).more hb9.size
            have hbw9 := hbw7.trans (hb9.mono hs7)
            have s1 := run_str (P := Try.prog) w9 23 9 5 Try.underlying23 Try.underlying5 Try.underlying9 r9 c9
            have s2 := run_str (P := Try.prog) w9 23 9 5 Try.underlying23 Try.underlying5 Try.underlying9 r7 c7
            clear hown9 hg9 r9 r7 hb9 hb8
            go_wp2
            go_ret
            exact ⟨rfl, hbw9⟩
          · have q : ((er : Int) != 0) = true := by rw [bne_iff_ne]; omega
            go_wp2_with fail
            refine HMAY.out.mono ?_
            rintro e w4 ⟨rfl, hb4⟩
            have hbw4 := hbw3.trans (hb4.mono hs3)
            go_wp2
            go_ret
            exact ⟨rfl, hbw4⟩
end Go.Proofs.Ytpbhmhagailhfaa
