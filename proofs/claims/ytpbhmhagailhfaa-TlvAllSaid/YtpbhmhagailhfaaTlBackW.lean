/-
  The walk of the law that a row that was laid down is taken as it was.
-/
import Derived.Test.YtpbhmhagailhfaaTlPartsW
import Derived.Test.YtpbhmhagailhfaaTlSame
namespace Go.Proofs.Ytpbhmhagailhfaa
open Go.RowKit
open Tl (Fel may flat putRow takeRow)

set_option maxRecDepth 100000 in
theorem tshort_any (A : Option Addr) (n c : Nat) (w : World) (hnc : n ≤ c) (hmax : c ≤ 9223372036854775807) :
    Calls Try.prog 11 #[.slice A n c] w fun e w' => e = .returned (.slice A (min n 17000) c) ∧ w = w' := by
  by_cases h : 17000 < n
  · have e : min n 17000 = 17000 := by omega
    have HE := Lib.hid e
    have h3 : (17000 : Int) ≤ (c : Int) := by omega
    clear e
    go_enter Try.func11, Try.ntmps11
    go_wp2
    go_ret
    exact ⟨by rw [HE.out]; rfl, rfl⟩
  · have e : min n 17000 = n := by omega
    have HE := Lib.hid e
    clear e
    go_enter Try.func11, Try.ntmps11
    go_wp2
    go_ret
    exact ⟨by rw [HE.out]; rfl, rfl⟩
theorem takeRow_no {bs : List Nat} (h : (takeRow bs).2 ≠ 0) : (takeRow bs).1 = [] := by
  unfold takeRow at h ⊢
  split
  · rfl
  · rename_i h1
    rw [if_neg h1] at h
    exact Tl.takeGo_no _ _ _ h
theorem flat_long : ∀ {l : List Fel} {p : Option Fel}, Tl.mayGo p l = 0 → l.length ≤ (flat l).length
  | [], _, _ => by simp
  | f :: l, p, h => by
    obtain ⟨h1, _, _, h4⟩ := Tl.mayGo_cons.1 h
    have := flat_long h4
    have := Tl.one_pos h1
    rw [Tl.flat_cons, List.length_append, List.length_cons]
    omega
theorem taken_ok {bs : List Nat} {l : List Fel} (hb : ∀ c ∈ bs, c < 256) (h : takeRow bs = (l, 0)) : putRow l = (bs, 0) ∧ l.length ≤ 16384 ∧ ∀ f ∈ l, Fok f := by
  obtain ⟨h1, h2, h3, h4⟩ := Tl.takeRow_back hb h
  obtain ⟨h5, h6⟩ := Tl.may_zero.1 h2
  have h7 := flat_long h5
  refine ⟨h1, by omega, fun f hf => ?_⟩
  obtain ⟨h8, h9⟩ := Tl.mayGo_fit h5 f hf
  have h10 := Tg.okTag_iff.1 (Tl.fit_iff.1 h8).1
  exact ⟨h4 f hf, by omega, by omega, by omega, by omega, by omega⟩

set_option maxHeartbeats 4000000 in
set_option maxRecDepth 100000 in
theorem tback_any (A : Option Addr) (n c : Nat) (l : List Fel) (S : List (Option Addr × Nat)) (Ab : Option Addr) (nb cb : Nat) (bs : List Nat) (at_ : Int) (w : World) (h : RdF w w.heap.size A n l S) (hnc : n ≤ c) (hmax : c ≤ 9223372036854775807) (hw : ∀ f ∈ l, Fin f)
    (hb : ∀ c ∈ bs, c < 256) (hrb : Rd w w.heap.size 1 Ab nb (bvs bs)) (hnb : nb ≤ cb) (hmb : cb ≤ 9223372036854775807) (ha0 : -9223372036854775808 ≤ at_) (ha1 : at_ ≤ 9223372036854775807) :
    Calls Try.prog 4 #[.slice A n c, .slice Ab nb cb, .int .i64 at_] w fun e w' => e = .returned (.bool true) ∧ Below w.heap.size w w' := by
  obtain ⟨i0, hi, hz0, hz1, hz2⟩ := info_parts byte_info
  have HR := Lib.hid h
  have hok := fewL_ok hw
  have hfl := fewL_len l
  obtain ⟨lf, hlf⟩ : ∃ lf, fewL l = lf := ⟨_, rfl⟩
  obtain ⟨m, hm⟩ : ∃ m, lf.length = m := ⟨_, rfl⟩
  have hm60 : m ≤ 60 := by rw [← hm, ← hlf, hfl]; omega
  rw [hlf] at hok
  have HOK := Lib.hid hok
  have HLF := Lib.hid hlf
  have HM := Lib.hid hm
  have hfew := fun w' (h' : RdF w' w'.heap.size A n l S) => few_row A n c l S w' h' hnc hmax m (by rw [hlf]; exact hm)
  rw [hlf] at hfew
  have HFEW := Lib.hid hfew
  obtain ⟨L, hL⟩ : ∃ L, min nb 17000 = L := ⟨_, rfl⟩
  have hL2 : L ≤ nb ∧ L ≤ 17000 := by omega
  have hrb2 := hrb.bytes_to hL2.1
  have hbx : ∀ c ∈ bs.take L, c < 256 := fun c hc => hb c (List.mem_of_mem_take hc)
  obtain ⟨xs, hxs⟩ : ∃ xs, bs.take L = xs := ⟨_, rfl⟩
  rw [hxs] at hrb2 hbx
  have hshort := fun w' => tshort_any Ab nb cb w' hnb hmb
  rw [hL] at hshort
  have HSH := Lib.hid hshort
  have HRX := Lib.hid hrb2
  have HBX := Lib.hid hbx
  clear h hfl hlf hm hok hw hfew hL hrb2 hbx hxs hshort hb hrb
  go_enter Try.func4, Try.ntmps4
  go_wp2_with fail
  refine (tshown_any w).mono ?_
  rintro e w1 ⟨rfl, hb1⟩
  have hs1 := hb1.size
  go_wp2_with fail
  refine (HFEW.out w1 ((HR.out.below hb1).more hs1)).mono ?_
  rintro e w2 ⟨A2, c2, rfl, hc2, hc22, hr2, _, hb2⟩
  have hbw2 := hb1.trans (hb2.mono hs1)
  have HR2 := Lib.hid hr2
  clear hr2 hb1 hb2 hs1
  have hs2 := hbw2.size
  go_wp2_with fail
  refine (HSH.out w2).mono ?_
  rintro e w2' ⟨rfl, rfl⟩
  go_wp2_with fail
  refine (put_row A2 m c2 lf (S.take 60) w2 HR2.out hc2 hc22 (by omega) HOK.out).mono ?_
  rintro e w3 ⟨v3, rfl, hown3, hb3⟩
  obtain ⟨pb, hpb⟩ : ∃ pb, (putRow lf).1 = pb := ⟨_, rfl⟩
  obtain ⟨pe, hpe⟩ : ∃ pe, (putRow lf).2 = pe := ⟨_, rfl⟩
  obtain ⟨pl, hpl⟩ : ∃ pl, pb.length = pl := ⟨_, rfl⟩
  have hfin : (pe = 0 ∧ may lf = 0 ∧ pb = flat lf ∧ pl ≤ 16384) ∨ pe ≠ 0 := by
    by_cases h0 : may lf = 0
    · have := put_ok h0
      have h1 := (Tl.may_zero.1 h0).2
      rw [this] at hpb hpe
      left
      exact ⟨hpe.symm, h0, hpb.symm, by rw [← hpl, ← hpb]; exact h1⟩
    · right
      rw [← hpe]
      unfold putRow
      rw [if_pos h0]
      exact h0
  have hpe5 : pe ≤ 5 := by
    rw [← hpe]
    unfold putRow
    have := Tl.may_err lf
    split
    · simp only []; omega
    · simp
  rw [hpb] at hown3
  rw [hpl] at hown3
  rw [hpe]
  obtain ⟨A3, c3, rfl, hc3, hc32⟩ := slice_of_own hown3
  have hbw3 := hbw2.trans (hb3.mono hs2)
  have HR3 := Lib.hid ((HR2.out.below hb3).more hb3.size)
  have HX3 := Lib.hid (Rd.of_own hown3)
  have HPL := Lib.hid hpl
  have HFIN := Lib.hid hfin
  have hs3 := hbw3.size
  clear hown3 hb3 hpb hpe hpl hfin HR2 hbw2 hs2 HFEW
  go_upto_if 30 with fail
  go_cut [] (fun wx => Below w.heap.size w wx)
  case first =>
    rcases HFIN.out with ⟨rfl, hmay, rfl, hpl16⟩ | hne
    · have hby := flat_byte HOK.out
      have htk := (Tl.takeRow_put (fun f hf => (HOK.out f hf).1) hmay).1
      have hcutk := fun j hj => Tl.takeRow_cut (j := j) (fun f hf => (HOK.out f hf).1) hmay hj
      obtain ⟨fl, hfl⟩ : ∃ fl, flat lf = fl := ⟨_, rfl⟩
      have hx3 := HX3.out
      rw [hfl] at hby htk hx3
      simp only [hfl] at hcutk
      have HBY := Lib.hid hby
      have HTK := Lib.hid htk
      have HCK := Lib.hid hcutk
      have HX4 := Lib.hid hx3
      have HFL := Lib.hid hfl
      clear hby htk hcutk hx3 hfl HX3 hmay HFIN
      go_wp2_with (at_builtin; refine wpList_append_rd _ rfl (.tmp 32) (.tmp 33) 23 rfl w3.heap.size 5 i0 (.int .u8 0) 1 1 Try.underlying23 hi hz0 hz1 hz2 rfl (by decide) _ 0 [] rfl (World.ownsRow_made (e := 5) w3 #[] 0 (Nat.le_refl _) (by unfold maxLen; omega) rfl) w3.heap.size A3 pl c3 (bvs fl) rfl (HX4.out.alloc (Nat.le_refl _) _) (bvs_one _) (by unfold maxLen; omega) (by omega) (by simp) ?_)
      intro v4 w4 hown4 hg4
      have hb4 : Below w3.heap.size w3 w4 := ((Below.refl _ _).alloc (Nat.le_refl _) _).grown hg4 (by simp) (fun k hk => by simp [Value.ownBlock] at hk; omega)
      have hown4' : w4.ownsRow w3.heap.size 5 1 v4 pl (bvs fl) := by simpa using hown4
      obtain ⟨A4, c4, rfl, hc4, hc42⟩ := slice_of_own hown4'
      have HX5 := Lib.hid (Rd.of_own hown4')
      have hbw4 := hbw3.trans (hb4.mono hs3)
      have HR4 := Lib.hid ((HR3.out.below hb4).more hb4.size)
      have HX6 := Lib.hid ((HX4.out.below hb4).more hb4.size)
      have hs4 := hbw4.size
      clear hown4 hg4 hown4' hb4 HR3 HX4
      go_wp2_with fail
      refine (take_row A4 pl c4 fl w4 HBY.out HX5.out hc4 hc42).mono ?_
      rintro e w5 ⟨v5, rfl, hr5, hb5⟩
      rw [HTK.out] at hr5 ⊢
      obtain ⟨A5, n5, c5, S5, rfl, hn5, hc5, hr5⟩ := hr5
      have hn5m : n5 = m := by have := hr5.1; rw [HM.out] at this; exact this.symm
      subst hn5m
      have HR5 := Lib.hid hr5
      have hbw5 := hbw4.trans (hb5.mono hs4)
      have HQ5 := Lib.hid ((HR4.out.below hb5).more hb5.size)
      have HX7 := Lib.hid ((HX6.out.below hb5).more hb5.size)
      have hs5 := hbw5.size
      clear hr5 hb5 HR4 HX6 HX5
      go_wp2_with fail
      refine (same_any A5 A2 n5 n5 c5 c2 w5.heap.size lf lf S5 (S.take 60) w5 HR5.out HQ5.out hn5 hc5 hc2 hc22 (fun f hf => (HOK.out f hf).1) (fun f hf => (HOK.out f hf).1)).mono ?_
      rintro e w6 ⟨d, rfl, hd, hb6⟩
      obtain rfl : d = true := hd.2 rfl
      have hbw6 := hbw5.trans (hb6.mono hs5)
      have HX8 := Lib.hid ((HX7.out.below hb6).more hb6.size)
      have hs6 := hbw6.size
      clear hd hb6 HR5 HQ5 HX7
      by_cases hat0 : 0 ≤ at_
      · by_cases hat1 : at_ < (pl : Int)
        · obtain ⟨j, rfl⟩ := Int.eq_ofNat_of_zero_le hat0
          have hj : j < pl := by omega
          have hjc : (j : Int) ≤ (c3 : Int) := by omega
          have hcut := HCK.out j (by rw [← HFL.out, HPL.out]; exact hj)
          have hrj := HX8.out.bytes_to (Nat.le_of_lt hj)
          have hbj : ∀ c ∈ fl.take j, c < 256 := fun c hc => HBY.out c (List.mem_of_mem_take hc)
          obtain ⟨fj, hfj⟩ : ∃ fj, fl.take j = fj := ⟨_, rfl⟩
          rw [hfj] at hcut hrj hbj
          have HCT := Lib.hid hcut
          have HRJ := Lib.hid hrj
          have HBJ := Lib.hid hbj
          clear hcut hrj hbj hfj HCK
          go_wp2_with fail
          refine (take_row A3 j c3 fj w6 HBJ.out HRJ.out (by omega) hc32).mono ?_
          rintro e w7 ⟨v7, rfl, hr7, hb7⟩
          have hbw7 := hbw6.trans (hb7.mono hs6)
          rcases HCT.out with ⟨k, hk, htk⟩ | htk
          · rw [htk] at hr7 ⊢
            obtain ⟨A7, n7, c7, S7, rfl, hn7, hc7, hr7⟩ := hr7
            have hk7 : n7 < n5 := by
              have := hr7.1
              have h2 := HM.out
              simp only [List.length_take] at this
              omega
            have hk8 : ¬ (n5 : Int) ≤ (n7 : Int) := by omega
            clear hr7 htk
            go_wp2
            go_meet
            case rel => exact hbw7
          · rw [htk] at hr7 ⊢
            obtain ⟨A7, n7, c7, S7, rfl, hn7, hc7, hr7⟩ := hr7
            obtain rfl : n7 = 0 := hr7.1.symm
            have hk7 : 0 < n5 := by
              have h1 := HFL.out
              have h2 := HM.out
              have h3 := HPL.out
              rcases Nat.eq_zero_or_pos n5 with h | h
              · rw [h] at h2
                have h4 : lf = [] := List.eq_nil_of_length_eq_zero h2
                rw [h4] at h3
                simp [flat] at h3
                omega
              · exact h
            have hk8 : ¬ (n5 : Int) ≤ 0 := by omega
            clear hr7 htk
            go_wp2
            go_meet
            case rel => exact hbw7
        · go_wp2
          go_meet
          case rel => exact hbw6
      · go_wp2
        go_meet
        case rel => exact hbw6
    · have q : ((pe : Int) == 0) = false := by rw [beq_eq_false_iff_ne]; omega
      go_wp2
      go_meet
      case rel => exact hbw3
  case rest =>
    have hsc := hcut.size
    have HXC := Lib.hid ((HRX.out.below hcut).more hsc)
    clear HX3 HR3 HPL HFIN HM HOK HLF HRX
    go_wp2_with (at_builtin; refine wpList_append_rd _ rfl (.tmp 81) (.tmp 82) 23 rfl wc.heap.size 5 i0 (.int .u8 0) 1 1 Try.underlying23 hi hz0 hz1 hz2 rfl (by decide) _ 0 [] rfl (World.ownsRow_made (e := 5) wc #[] 0 (Nat.le_refl _) (by unfold maxLen; omega) rfl) wc.heap.size Ab L cb (bvs xs) rfl (HXC.out.alloc (Nat.le_refl _) _) (bvs_one _) (by unfold maxLen; omega) (by omega) (by simp) ?_)
    intro v4 w4 hown4 hg4
    have hb4 : Below wc.heap.size wc w4 := ((Below.refl _ _).alloc (Nat.le_refl _) _).grown hg4 (by simp) (fun k hk => by simp [Value.ownBlock] at hk; omega)
    have hown4' : w4.ownsRow wc.heap.size 5 1 v4 L (bvs xs) := by simpa using hown4
    obtain ⟨A4, c4, rfl, hc4, hc42⟩ := slice_of_own hown4'
    have HX5 := Lib.hid (Rd.of_own hown4')
    have hbw4 := hcut.trans (hb4.mono hsc)
    have HX6 := Lib.hid ((HXC.out.below hb4).more hb4.size)
    have hs4 := hbw4.size
    clear hown4 hg4 hown4' hb4 HXC
    go_wp2_with fail
    refine (take_row A4 L c4 xs w4 HBX.out HX5.out hc4 hc42).mono ?_
    rintro e w5 ⟨v5, rfl, hr5, hb5⟩
    have hbw5 := hbw4.trans (hb5.mono hs4)
    have HX7 := Lib.hid ((HX6.out.below hb5).more hb5.size)
    have hs5 := hbw5.size
    clear HX5 HX6
    obtain ⟨tl, te, htt⟩ : ∃ tl te, takeRow xs = (tl, te) := ⟨_, _, rfl⟩
    rw [htt] at hr5 ⊢
    obtain ⟨A5, n5, c5, S5, rfl, hn5, hc5, hr5⟩ := hr5
    by_cases h0 : te = 0
    · subst h0
      obtain ⟨h1, h2, h3⟩ := taken_ok HBX.out htt
      have hn16 : n5 ≤ 16384 := by have := hr5.1; simp only at this; omega
      have HP := Lib.hid h1
      have HOK5 := Lib.hid h3
      have HR5 := Lib.hid hr5
      have hxl : xs.length = L := by have := HX7.out.1; rw [bvs_len] at this; omega
      have HXL := Lib.hid hxl
      clear h1 h2 h3 hr5 htt hxl hb5
      go_wp2_with fail
      refine (put_row A5 n5 c5 tl S5 w5 HR5.out hn5 hc5 (by omega) HOK5.out).mono ?_
      rintro e w6 ⟨v6, rfl, hown6, hb6⟩
      rw [HP.out] at hown6 ⊢
      replace hown6 : w6.ownsRow w5.heap.size 5 1 v6 L (bvs xs) := by have h1 := hown6; simp only [HXL.out] at h1; exact h1
      obtain ⟨A6, c6, rfl, hc6, hc62⟩ := slice_of_own hown6
      have hbw6 := hbw5.trans (hb6.mono hs5)
      have r6 := Rd.of_own hown6
      have r7 := (HX7.out.below hb6).more hb6.size
      have s1 := run_str (P := Try.prog) w6 23 9 5 Try.underlying23 Try.underlying5 Try.underlying9 r6 c6
      have s2 := run_str (P := Try.prog) w6 23 9 5 Try.underlying23 Try.underlying5 Try.underlying9 r7 cb
      clear hown6 r6 r7 hb6
      go_wp2
      go_ret
      exact ⟨rfl, hbw6⟩
    · have hno := takeRow_no (bs := xs) (by rw [htt]; exact h0)
      rw [htt] at hno
      simp only [] at hno
      subst hno
      obtain rfl : n5 = 0 := hr5.1.symm
      have q : ((te : Int) != 0) = true := by rw [bne_iff_ne]; omega
      clear hr5 htt h0 hb5
      go_wp2
      go_ret
      exact ⟨rfl, hbw5⟩
end Go.Proofs.Ytpbhmhagailhfaa
