/-
  The walks of the landed tag.Put, Take and Skip.
-/
import Derived.Test.YtpbhmhagailhfaaTgCl
namespace Go.Proofs.Ytpbhmhagailhfaa.Tg
open Go.RowKit
open Go.Proofs.Ytpbhmhagailhfaa.Vi (put take put_len put_byte take_put take_put0 take_back take_cut take_err put_inj taken put_any put_int take_any)

set_option maxRecDepth 100000 in
theorem put_tag (num wire : Int) (w : World) (n0 : -9223372036854775808 ≤ num) (n1 : num ≤ 9223372036854775807) (k0 : -9223372036854775808 ≤ wire) (k1 : wire ≤ 9223372036854775807) :
    Calls Try.prog 32 #[.int .i64 num, .int .i64 wire] w (NewPair w (tput num wire).1 ((tput num wire).2 : Nat)) := by
  have hm := Lib.hid (may_tag num wire w n0 n1 k0 k1)
  cases ho : okTag num wire with
  | false =>
    rw [tput_no ho]
    go_enter Try.func32, Try.ntmps32
    go_wp2_with fail
    refine hm.out.mono ?_
    rintro e w' ⟨rfl, rfl⟩
    rw [ho]
    clear ho
    go_wp2
    go_ret2
    exact pair_no w
  | true =>
    rw [tput_ok ho]
    obtain ⟨h1, h2, h3⟩ := okTag_iff.1 ho
    have h4 : 0 ≤ wire ∧ wire ≤ 2 := by omega
    clear h3
    go_enter Try.func32, Try.ntmps32
    go_wp2_with fail
    refine hm.out.mono ?_
    rintro e w' ⟨rfl, rfl⟩
    rw [ho]
    clear ho
    go_wp2_with fail
    refine (put_int (num * 8 + wire) w (by omega) (by omega)).mono ?_
    rintro e w' ⟨v, rfl, hown, hb⟩
    go_wp2
    go_ret2
    exact ⟨v, rfl, by rw [show 8 * num + wire = num * 8 + wire by omega]; exact hown, hb⟩

set_option maxRecDepth 100000 in
theorem take_tag (A : Option Addr) (n c : Nat) (bs : List Nat) (w : World) (hb : ∀ c ∈ bs, c < 256) (h : Rd w w.heap.size 1 A n (bvs bs)) (hnc : n ≤ c) (hmax : c ≤ 9223372036854775807) :
    Calls Try.prog 37 #[.slice A n c] w fun e w' => e = .returned (tagged (ttake bs)) ∧ Below w.heap.size w w' := by
  go_enter Try.func37, Try.ntmps37
  go_wp2_with fail
  refine (numbers_any A n c w).mono ?_
  rintro e w1 ⟨rfl, hb1, hs1, hg⟩
  go_wp2_with fail
  refine (take_cl w.heap.size A n c bs w1 hb (h.below hb1) hnc hmax hg).mono ?_
  rintro e w2 ⟨rfl, hb2, _⟩
  unfold tagged
  go_wp2
  refine bodyPost_ret (results4 rfl _ _ _) rfl ?_
  exact ⟨rfl, hb1.trans hb2⟩

set_option maxHeartbeats 1000000 in
set_option maxRecDepth 100000 in
theorem skip_tag (A : Option Addr) (n c : Nat) (bs : List Nat) (w : World) (hb : ∀ c ∈ bs, c < 256) (h : Rd w w.heap.size 1 A n (bvs bs)) (hnc : n ≤ c) (hmax : c ≤ 9223372036854775807) :
    Calls Try.prog 25 #[.slice A n c] w fun e w' => e = .returned (.tuple #[.int .i64 ((tskip bs).1 : Nat), .int .i64 ((tskip bs).2 : Nat)]) ∧ Below w.heap.size w w' := by
  obtain ⟨num, wire, size, err, ht⟩ : ∃ num wire size err, ttake bs = ⟨num, wire, size, err⟩ := ⟨_, _, _, _, rfl⟩
  have hle := ttake_le hb
  rw [ht] at hle
  obtain ⟨hn1, hw1, hs1, hs2⟩ : num ≤ 1000 ∧ wire ≤ 2 ∧ size ≤ 10 ∧ size ≤ bs.length := hle
  have hlen : bs.length = n := by have := h.1; rw [bvs_len] at this; omega
  have hs3 : size ≤ n := by omega
  have HT := Lib.hid (show tagged (ttake bs) = .tuple #[.int .i64 (num : Int), .int .i64 (wire : Int), .int .i64 (size : Int), .int .i64 (err : Int)] by rw [ht]; rfl)
  have HL := Lib.hid hlen
  have HH := Lib.hid ht
  have HR := Lib.hid h
  have HB := Lib.hid hb
  by_cases he : err = 0
  · subst he
    have hback := ttake_back hb (by rw [ht])
    rw [ht] at hback
    obtain ⟨hok, hsz1, _⟩ : okTag num wire = true ∧ 1 ≤ size ∧ _ := hback
    have hwire : wire = 0 ∨ wire = 2 := by have := (okTag_iff.1 hok).2.2; omega
    clear hok
    have hbd : ∀ c ∈ bs.drop size, c < 256 := fun c hc => hb c (List.mem_of_mem_drop hc)
    obtain ⟨x, k, e, hx⟩ : ∃ x k e, take (bs.drop size) = (x, k, e) := ⟨_, _, _, rfl⟩
    have hle2 := take_le hbd
    rw [hx] at hle2
    obtain ⟨hk10, hkl, hx64, he3⟩ : k ≤ 10 ∧ k ≤ (bs.drop size).length ∧ x < 18446744073709551616 ∧ e ≤ 3 := hle2
    have hkl : k ≤ n - size := by rw [List.length_drop] at hkl; omega
    have HX := Lib.hid hx
    clear ht hlen h hb hbd
    go_enter Try.func25, Try.ntmps25
    go_wp2_with fail
    refine (numbers_any A n c w).mono ?_
    rintro e1 w1 ⟨rfl, hb1, hz1, hg⟩
    go_wp2_with fail
    refine (take_cl w.heap.size A n c bs w1 HB.out (HR.out.below hb1) hnc hmax hg).mono ?_
    rintro e2 w2 ⟨rfl, hb2, hz2, hg2⟩
    have hg2 : Along w2 w.heap.size A n c size := by have := hg2 (by rw [HH.out]); rw [HH.out] at this; exact this
    have hb12 : Below w.heap.size w w2 := hb1.trans hb2
    have HN := Lib.hid (next_any w.heap.size A n c size bs w2 HB.out (HR.out.below hb12) hs3 hnc hmax hg2)
    clear hg hg2
    rw [HT.out]
    unfold nextOf
    go_wp2_with fail
    refine HN.out.mono ?_
    rintro e3 w3 ⟨rfl, hb3, _, _⟩
    have hb13 : Below w.heap.size w w3 := hb12.trans hb3
    clear hb1 hb2 hb3
    by_cases he2 : e = 0
    · subst he2
      rw [show told bs size = .tuple #[.int .u64 (x : Int), .int .i64 ((size + k : Nat) : Int), .int .i64 0] by unfold told; rw [HX.out]; rfl]
      clear hx
      rcases hwire with rfl | rfl
      · have HV := Lib.hid (tskip_num HH.out HX.out)
        go_wp2
        go_ret2
        exact ⟨by rw [HV.out]; exact ret_tuple (by simp), hb13⟩
      · by_cases hbig : 16384 < x
        · have HV := Lib.hid (tskip_big HH.out HX.out hbig)
          go_wp2
          go_ret2
          exact ⟨by rw [HV.out]; rfl, hb13⟩
        · by_cases hsh : n - size - k < x
          · have HV := Lib.hid (tskip_short HH.out HX.out hbig (by rw [HL.out]; exact hsh))
            go_wp2
            go_ret2
            exact ⟨by rw [HV.out]; rfl, hb13⟩
          · have HV := Lib.hid (tskip_bytes HH.out HX.out hbig (by rw [HL.out]; exact hsh))
            go_wp2
            go_ret2
            exact ⟨by rw [HV.out]; exact ret_tuple (by simp), hb13⟩
    · have q1 : ((e : Int) != 0) = true := by rw [bne_iff_ne]; omega
      rw [show told bs size = .tuple #[.int .u64 0, .int .i64 0, .int .i64 (e : Int)] by unfold told; rw [HX.out]; exact if_neg he2]
      have HV := Lib.hid (tskip_bad2 HH.out HX.out he2)
      clear hx
      go_wp2
      go_ret2
      exact ⟨by rw [HV.out]; rfl, hb13⟩
  · have q1 : ((err : Int) != 0) = true := by rw [bne_iff_ne]; omega
    have HV := Lib.hid (tskip_bad HH.out he)
    clear ht hlen h hb
    go_enter Try.func25, Try.ntmps25
    go_wp2_with fail
    refine (numbers_any A n c w).mono ?_
    rintro e1 w1 ⟨rfl, hb1, hz1, hg⟩
    go_wp2_with fail
    refine (take_cl w.heap.size A n c bs w1 HB.out (HR.out.below hb1) hnc hmax hg).mono ?_
    rintro e2 w2 ⟨rfl, hb2, _⟩
    have hb12 : Below w.heap.size w w2 := hb1.trans hb2
    rw [HT.out]
    clear hg hb1 hb2
    go_wp2
    go_ret2
    exact ⟨by rw [HV.out]; rfl, hb12⟩
end Go.Proofs.Ytpbhmhagailhfaa.Tg
