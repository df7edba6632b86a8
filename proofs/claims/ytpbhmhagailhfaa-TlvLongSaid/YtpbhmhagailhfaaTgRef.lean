/-
  The walks of the reference of layer 2.
-/
import Derived.Test.YtpbhmhagailhfaaTgRPut
import Derived.Test.YtpbhmhagailhfaaViRTake
namespace Go.Proofs.Ytpbhmhagailhfaa.Tg
open Go.RowKit
open Go.Proofs.Ytpbhmhagailhfaa.Vi (put take put_len put_byte take_put take_put0 take_back take_cut take_err put_inj taken rput_any rput_int rtake_any)

def tagged (t : T4) : Value := .tuple #[.int .i64 (t.num : Int), .int .i64 (t.wire : Int), .int .i64 (t.size : Int), .int .i64 (t.err : Int)]

set_option maxHeartbeats 1000000 in
set_option maxRecDepth 100000 in
theorem rtake_tag (A : Option Addr) (n c : Nat) (bs : List Nat) (w : World) (hb : ∀ c ∈ bs, c < 256) (h : Rd w w.heap.size 1 A n (bvs bs)) (hnc : n ≤ c) (hmax : c ≤ 9223372036854775807) :
    Calls Try.prog 28 #[.slice A n c] w fun e w' => e = .returned (tagged (ttake bs)) ∧ Below w.heap.size w w' := by
  obtain ⟨x, k, e, hx⟩ : ∃ x k e, take bs = (x, k, e) := ⟨_, _, _, rfl⟩
  have hle := take_le hb
  rw [hx] at hle
  obtain ⟨hk10, hkl, hx64, he3⟩ : k ≤ 10 ∧ k ≤ bs.length ∧ x < 18446744073709551616 ∧ e ≤ 3 := hle
  have ht : taken (take bs) = .tuple #[.int .u64 (x : Int), .int .i64 (k : Int), .int .i64 (e : Int)] := by rw [hx]; rfl
  have HT := Lib.hid ht
  have HX := Lib.hid hx
  clear ht hx
  by_cases he : e = 0
  · subst he
    by_cases hbig : 8008 ≤ x
    · have ho : okTag (x / 8 : Nat) (x % 8 : Nat) = false := by
        cases h : okTag (x / 8 : Nat) (x % 8 : Nat) with
        | false => rfl
        | true => have := okTag_iff.1 h; omega
      have HV := Lib.hid (ttake_no HX.out ho)
      clear ho
      go_enter Try.func28, Try.ntmps28
      go_wp2_with fail
      refine (rtake_any A n c bs w hb h hnc hmax).mono ?_
      rintro e' w1 ⟨rfl, hb1⟩
      rw [HT.out]
      go_wp2
      refine bodyPost_ret (results4 rfl _ _ _) rfl ?_
      exact ⟨by rw [HV.out]; rfl, hb1⟩
    · go_enter Try.func28, Try.ntmps28
      go_wp2_with fail
      refine (rtake_any A n c bs w hb h hnc hmax).mono ?_
      rintro e' w1 ⟨rfl, hb1⟩
      rw [HT.out]
      go_wp2_with fail
      rw [show (x : Int) / 8 = ((x / 8 : Nat) : Int) by omega, show (x : Int) % 8 = ((x % 8 : Nat) : Int) by omega]
      refine (rput_tag ((x / 8 : Nat) : Int) ((x % 8 : Nat) : Int) w1 (by omega) (by omega) (by omega) (by omega)).mono ?_
      rintro e' w2 ⟨v, rfl, hown, hb2⟩
      have hb12 : Below w.heap.size w w2 := hb1.trans (hb2.mono hb1.size)
      clear hown
      cases ho : okTag (x / 8 : Nat) (x % 8 : Nat) with
      | false =>
        rw [tput_no ho]
        have HV := Lib.hid (ttake_no HX.out ho)
        clear ho
        go_wp2
        refine bodyPost_ret (results4 rfl _ _ _) rfl ?_
        exact ⟨by rw [HV.out]; rfl, hb12⟩
      | true =>
        rw [tput_ok ho]
        have HV := Lib.hid (ttake_ok HX.out ho)
        clear ho
        go_wp2
        refine bodyPost_ret (results4 rfl _ _ _) rfl ?_
        exact ⟨by rw [HV.out]; rfl, hb12⟩
  · have q1 : ((e : Int) != 0) = true := by rw [bne_iff_ne]; omega
    have HV := Lib.hid (ttake_bad HX.out he)
    go_enter Try.func28, Try.ntmps28
    go_wp2_with fail
    refine (rtake_any A n c bs w hb h hnc hmax).mono ?_
    rintro e' w1 ⟨rfl, hb1⟩
    rw [HT.out]
    go_wp2
    refine bodyPost_ret (results4 rfl _ _ _) rfl ?_
    exact ⟨by rw [HV.out]; rfl, hb1⟩

set_option maxHeartbeats 1000000 in
set_option maxRecDepth 100000 in
theorem rskip_tag (A : Option Addr) (n c : Nat) (bs : List Nat) (w : World) (hb : ∀ c ∈ bs, c < 256) (h : Rd w w.heap.size 1 A n (bvs bs)) (hnc : n ≤ c) (hmax : c ≤ 9223372036854775807) :
    Calls Try.prog 27 #[.slice A n c] w fun e w' => e = .returned (.tuple #[.int .i64 ((tskip bs).1 : Nat), .int .i64 ((tskip bs).2 : Nat)]) ∧ Below w.heap.size w w' := by
  obtain ⟨num, wire, size, err, ht⟩ : ∃ num wire size err, ttake bs = ⟨num, wire, size, err⟩ := ⟨_, _, _, _, rfl⟩
  have hle := ttake_le hb
  rw [ht] at hle
  obtain ⟨hn1, hw1, hs1, hs2⟩ : num ≤ 1000 ∧ wire ≤ 2 ∧ size ≤ 10 ∧ size ≤ bs.length := hle
  have hlen : bs.length = n := by have := h.1; rw [bvs_len] at this; omega
  have hs3 : size ≤ n := by omega
  have HT := Lib.hid (show tagged (ttake bs) = .tuple #[.int .i64 (num : Int), .int .i64 (wire : Int), .int .i64 (size : Int), .int .i64 (err : Int)] by rw [ht]; rfl)
  have HL := Lib.hid hlen
  have HH := Lib.hid ht
  clear hlen
  by_cases he : err = 0
  · subst he
    have hback := ttake_back hb (by rw [ht])
    rw [ht] at hback
    obtain ⟨hok, hsz1, _⟩ : okTag num wire = true ∧ 1 ≤ size ∧ _ := hback
    have hwire : wire = 0 ∨ wire = 2 := by have := (okTag_iff.1 hok).2.2; omega
    clear hok
    have hbd : ∀ c ∈ bs.drop size, c < 256 := fun c hc => hb c (List.mem_of_mem_drop hc)
    obtain ⟨x, k, e, hx⟩ : ∃ x k e, take (bs.drop size) = (x, k, e) := ⟨_, _, _, rfl⟩
    have hle2 := take_le hbd
    rw [hx] at hle2
    obtain ⟨hk10, hkl, hx64, he3⟩ : k ≤ 10 ∧ k ≤ (bs.drop size).length ∧ x < 18446744073709551616 ∧ e ≤ 3 := hle2
    have hkl : k ≤ n - size := by rw [List.length_drop] at hkl; have := HL.out; omega
    have HX := Lib.hid hx
    have HT2 := Lib.hid (show taken (take (bs.drop size)) = .tuple #[.int .u64 (x : Int), .int .i64 (k : Int), .int .i64 (e : Int)] by rw [hx]; rfl)
    have hcut := h.bytes_from hs3 hnc
    obtain ⟨i0, hi, hz0, hz1, hz2⟩ := info_parts byte_info
    have hsl := run_from (P := Try.prog) 23 5 i0 1 Try.underlying23 hi hz1 A n c size .i64 hs3
    have HR := Lib.hid h
    have HB := Lib.hid hb
    have HBD := Lib.hid hbd
    have HC := Lib.hid hcut
    clear hx ht hcut h hb hbd
    generalize cutAt A c 1 size = A2 at *
    go_enter Try.func27, Try.ntmps27
    go_wp2_with fail
    refine (rtake_tag _ n c bs w HB.out HR.out hnc hmax).mono ?_
    rintro e' w1 ⟨rfl, hb1⟩
    rw [HT.out]
    go_wp2_with fail
    refine (rtake_any A2 (n - size) (c - size) (bs.drop size) w1 HBD.out ((HC.out.below hb1).more hb1.size) (by omega) (by omega)).mono ?_
    rintro e' w2 ⟨rfl, hb2⟩
    rw [HT2.out]
    have hb12 : Below w.heap.size w w2 := hb1.trans (hb2.mono hb1.size)
    by_cases he2 : e = 0
    · subst he2
      rcases hwire with rfl | rfl
      · have HV := Lib.hid (tskip_num HH.out HX.out)
        go_wp2
        go_ret2
        exact ⟨by rw [HV.out]; exact ret_tuple (by simp), hb12⟩
      · by_cases hbig : 16384 < x
        · have HV := Lib.hid (tskip_big HH.out HX.out hbig)
          go_wp2
          go_ret2
          exact ⟨by rw [HV.out]; rfl, hb12⟩
        · by_cases hsh : n - size - k < x
          · have HV := Lib.hid (tskip_short HH.out HX.out hbig (by rw [HL.out]; exact hsh))
            go_wp2
            go_ret2
            exact ⟨by rw [HV.out]; rfl, hb12⟩
          · have HV := Lib.hid (tskip_bytes HH.out HX.out hbig (by rw [HL.out]; exact hsh))
            go_wp2
            go_ret2
            exact ⟨by rw [HV.out]; exact ret_tuple (by simp), hb12⟩
    · have q1 : ((e : Int) != 0) = true := by rw [bne_iff_ne]; omega
      have HV := Lib.hid (tskip_bad2 HH.out HX.out he2)
      go_wp2
      go_ret2
      exact ⟨by rw [HV.out]; rfl, hb12⟩
  · have q1 : ((err : Int) != 0) = true := by rw [bne_iff_ne]; omega
    have HV := Lib.hid (tskip_bad HH.out he)
    clear ht
    go_enter Try.func27, Try.ntmps27
    go_wp2_with fail
    refine (rtake_tag A n c bs w hb h hnc hmax).mono ?_
    rintro e' w1 ⟨rfl, hb1⟩
    rw [HT.out]
    go_wp2
    go_ret2
    exact ⟨by rw [HV.out]; rfl, hb1⟩
end Go.Proofs.Ytpbhmhagailhfaa.Tg
