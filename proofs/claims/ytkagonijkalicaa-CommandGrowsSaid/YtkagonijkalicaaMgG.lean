/-
  Several texts in one: ViRTake, TgRef, TlRTake, TlSplit.
-/
import Derived.Test.YtkagonijkalicaaMgD
import Derived.Test.YtkagonijkalicaaMgE
import Derived.Test.YtkagonijkalicaaMgF
import Derived.Test.YtkagonijkalicaaMgB
import Derived.Deep.AppendLies
set_option linter.unusedVariables false
set_option linter.unusedSimpArgs false

/-
  The walk of the reference's way to take a number.
-/
namespace Go.Proofs.Ytkagonijkalicaa.Vi
open Go.RowKit

set_option maxHeartbeats 2000000 in
set_option maxRecDepth 100000 in
theorem rtake_any (A : Option Addr) (n c : Nat) (bs : List Nat) (w : World) (hb : ∀ c ∈ bs, c < 256) (h : Rd w w.heap.size 1 A n (bvs bs)) (hnc : n ≤ c) (hmax : c ≤ 9223372036854775807) :
    Calls Try.prog 79 #[.slice A n c] w fun e w' => e = .returned (taken (take bs)) ∧ Below w.heap.size w w' := by
  have hlen : bs.length = n := by have := h.1; rw [bvs_len] at this; omega
  have hrt := rt_take bs hb
  have HT := Lib.hid hrt
  have HL := Lib.hid hlen
  have HB := Lib.hid hb
  have HR := Lib.hid h
  clear hlen hb h hrt
  go_enter Try.func79, Try.ntmps79
  go_wp2
  go_loopw [5, 6] (fun x i wr => ∃ (j f m : Nat), i = .int .i64 (j : Int) ∧ x = .int .u64 (m : Int) ∧ j + f = 10 ∧ j ≤ n ∧ m < 18446744073709551616 ∧ rt bs 10 0 0 bs = rt bs f j m (bs.drop j) ∧ Below w.heap.size w wr) (fun _ i _ => 10 - (intOf i).toNat)
  case atStart => exact ⟨0, 10, 0, rfl, rfl, rfl, by omega, by omega, rfl, Below.refl _ _⟩
  case round =>
    obtain ⟨j, f, m, rfl, rfl, hf, hj, hm, hd, hbw⟩ := hrel
    have HD := Lib.hid hd
    clear hd
    by_cases h10 : j < 10
    · obtain ⟨g, rfl⟩ : ∃ g, f = g + 1 := ⟨f - 1, by omega⟩
      by_cases hjn : j < n
      · have HR2 := HR.out.below hbw
        obtain ⟨ad, c0, rfl, hc0, hdr, _, hcell⟩ := HR2.byte HB.out hjn
        have hv := HD.out
        rw [hdr] at hv
        have HV := Lib.hid hv
        clear hdr hv
        obtain ⟨M, hM⟩ : ∃ M : Nat, M = (m + c0 % 128 * 2 ^ (7 * j)) % 18446744073709551616 := ⟨_, rfl⟩
        have hMb : M < 18446744073709551616 := by rw [hM]; exact Nat.mod_lt _ (by omega)
        have hw : IntKind.u64.wrap ((m : Int) + IntKind.u64.wrap ((c0 : Int) % 128 * 2 ^ (7 * j))) = (M : Int) := by
          rw [hM, IntKind.wrap_u64, IntKind.wrap_u64]
          have e1 : (c0 : Int) % 128 * 2 ^ (7 * j) = ((c0 % 128 * 2 ^ (7 * j) : Nat) : Int) := by simp
          rw [e1]; omega
        have HM := Lib.hid hM
        clear hM
        go_wp2
        · obtain ⟨bt, hbt⟩ : ∃ bt : Bool, bt = decide (put M ≠ bs.take (j + 1)) := ⟨_, rfl⟩
          have HBT := Lib.hid hbt
          clear hbt
          refine wp_region_grew (n := 43) (Say [(31, isv (.int .u64 (M : Int))), (32, istxt (put M)), (33, isv (.string (strOf (put M)))), (34, isv (.slice (some ad) n c)), (35, isv (.int .i64 (j : Int))),
            (36, isv (.int .i64 ((j : Int) + 1))), (37, isv (.slice (some ad) (j + 1) c)), (38, isv (.string (strOf (bs.take (j + 1))))), (39, isv (.bool bt))])
            (by kernel_rfl) (by kernel_rfl) rfl ⟨?_, ?_, ?_, ?_, ?_, ?_, ?_, ?_, ?_, trivial⟩ ?_
          · exact owed_move rfl rfl (.inl rfl) fun a w _ hK => known_out hK 5 (by kernel_rfl)
          · refine owed_plain rfl rfl fun a w hC hK K hk => ?_
            have k : slot a 31 = .int .u64 (M : Int) := known_in hK 31 (by kernel_rfl)
            clear hK
            unfold slot at k
            go_simp
            refine (rput_any M w hMb).mono ?_
            rintro e w' ⟨v, rfl, hown, hb⟩
            exact hk v w' hb (Txt.of_new hown)
          · refine owed_val _ rfl rfl (fun _ => rfl) fun a w hC hK => ?_
            obtain ⟨A, n, c, hv, hr⟩ : Txt (put M) (slot a 32) w := known_in hK 32 (by kernel_rfl)
            clear hK
            unfold slot at hv
            have k := run_str (P := Try.prog) w 25 9 5 Try.underlying25 Try.underlying5 Try.underlying9 hr c
            go_simp
          · exact owed_move rfl rfl (.inl rfl) fun a w _ hK => known_out hK 0 (by kernel_rfl)
          · exact owed_move rfl rfl (.inl rfl) fun a w _ hK => known_out hK 6 (by kernel_rfl)
          · refine owed_val _ rfl rfl (fun _ => rfl) fun a w hC hK => ?_
            have k : slot a 35 = .int .i64 (j : Int) := known_in hK 35 (by kernel_rfl)
            clear hK
            unfold slot at k
            have e1 : IntKind.i64.wrap ((j : Int) + 1) = (j : Int) + 1 := IntWalk.i64_in _ ⟨by omega, by omega⟩
            go_simp
          · refine owed_val _ rfl rfl (fun _ => rfl) fun a w hC hK => ?_
            have k1 : slot a 34 = .slice (some ad) n c := known_in hK 34 (by kernel_rfl)
            have k2 : slot a 36 = .int .i64 ((j : Int) + 1) := known_in hK 36 (by kernel_rfl)
            clear hK
            unfold slot at k1 k2
            have e1 : (0 : Int) ≤ (j : Int) + 1 := by omega
            have e2 : (j : Int) + 1 ≤ (c : Int) := by omega
            go_simp
            trace_state
          · refine owed_val _ rfl rfl (fun _ => rfl) fun a w hC hK => ?_
            have k1 : slot a 37 = .slice (some ad) (j + 1) c := known_in hK 37 (by kernel_rfl)
            clear hK
            unfold slot at k1
            have hr : Rd w wr.heap.size 1 (some ad) (j + 1) (bvs (bs.take (j + 1))) := by
              have h1 := (((HR.out.below hbw).more hbw.size).below hC).take (show j + 1 ≤ n by omega)
              rw [Nat.mul_one] at h1
              simpa [bvs, List.map_take] using h1
            have k := run_str (P := Try.prog) w 25 9 5 Try.underlying25 Try.underlying5 Try.underlying9 hr c
            go_simp
          · refine owed_val _ rfl rfl (fun _ => rfl) fun a w hC hK => ?_
            have k1 : slot a 33 = .string (strOf (put M)) := known_in hK 33 (by kernel_rfl)
            have k2 : slot a 38 = .string (strOf (bs.take (j + 1))) := known_in hK 38 (by kernel_rfl)
            clear hK
            unfold slot at k1 k2
            have e1 := str_beq (put_byte M hMb) (fun c hc => HB.out c (List.mem_of_mem_take hc) : ∀ c ∈ bs.take (j + 1), c < 256)
            have e2 := HBT.out
            go_simp
          · intro vs w' hg hgood
            obtain ⟨_, _, _, _, _, _, _, _, h39, _⟩ := hgood
            have h39 : vs 39 = .bool bt := h39
            have hb2 : Below w.heap.size w w' := hbw.trans (hg.mono hbw.size)
            have hc3 : (c0 : Int) < 128 := by assumption
            have hc4 : (M : Nat) = (m + c0 * 2 ^ (7 * j)) % 18446744073709551616 := by rw [HM.out, show c0 % 128 = c0 by omega]
            have HM4 := Lib.hid hc4
            clear hc4
            simp only [putsOf]
            go_simp
            cases bt with
            | true =>
              go_wp2
              go_ret3
              have hne : ¬ put M = bs.take (j + 1) := by have := HBT.out; simpa using this.symm
              refine ⟨taken_of (x := 0) (k := 0) (e := 3) ?_ rfl rfl rfl, hb2⟩
              rw [← HT.out, HV.out, rt, if_pos (by omega), if_neg (by rw [← HM4.out]; exact hne)]
            | false =>
              go_wp2
              go_ret3
              have heq : put M = bs.take (j + 1) := by have := HBT.out; simpa using this.symm
              refine ⟨taken_of (x := M) (k := j + 1) (e := 0) ?_ rfl (by omega) rfl, hb2⟩
              rw [← HT.out, HV.out, rt, if_pos (by omega), if_pos (by rw [← HM4.out]; exact heq), ← HM4.out]
        · have hc3 : 128 ≤ (c0 : Int) := by assumption
          go_roundw
          case rel => exact ⟨j + 1, g, M, by go_num, rfl, by omega, by omega, hMb, by rw [HV.out, rt, if_neg (by omega), HM.out], hbw⟩
          case measure => simp [intOf]; omega
      · go_wp2
        go_ret3
        refine ⟨taken_of (x := 0) (k := 0) (e := 2) ?_ rfl rfl rfl, hbw⟩
        rw [← HT.out, HD.out, List.drop_eq_nil_of_le (by have := HL.out; omega)]; rfl
    · go_wp2
      go_ret3
      refine ⟨taken_of (x := 0) (k := 0) (e := 3) ?_ rfl rfl rfl, hbw⟩
      rw [← HT.out, HD.out, show f = 0 by omega]; rfl
end Go.Proofs.Ytkagonijkalicaa.Vi

/-
  The walks of the reference of layer 2.
-/
namespace Go.Proofs.Ytkagonijkalicaa.Tg
open Go.RowKit
open Go.Proofs.Ytkagonijkalicaa.Vi (put take put_len put_byte take_put take_put0 take_back take_cut take_err put_inj taken rput_any rput_int rtake_any)

def tagged (t : T4) : Value := .tuple #[.int .i64 (t.num : Int), .int .i64 (t.wire : Int), .int .i64 (t.size : Int), .int .i64 (t.err : Int)]

set_option maxHeartbeats 1000000 in
set_option maxRecDepth 100000 in
theorem rtake_tag (A : Option Addr) (n c : Nat) (bs : List Nat) (w : World) (hb : ∀ c ∈ bs, c < 256) (h : Rd w w.heap.size 1 A n (bvs bs)) (hnc : n ≤ c) (hmax : c ≤ 9223372036854775807) :
    Calls Try.prog 78 #[.slice A n c] w fun e w' => e = .returned (tagged (ttake bs)) ∧ Below w.heap.size w w' := by
  obtain ⟨x, k, e, hx⟩ : ∃ x k e, take bs = (x, k, e) := ⟨_, _, _, rfl⟩
  have hle := take_le hb
  rw [hx] at hle
  obtain ⟨hk10, hkl, hx64, he3⟩ : k ≤ 10 ∧ k ≤ bs.length ∧ x < 18446744073709551616 ∧ e ≤ 3 := hle
  have ht : taken (take bs) = .tuple #[.int .u64 (x : Int), .int .i64 (k : Int), .int .i64 (e : Int)] := by rw [hx]; rfl
  have HT := Lib.hid ht
  have HX := Lib.hid hx
  clear ht hx
  by_cases he : e = 0
  · subst he
    by_cases hbig : 8008 ≤ x
    · have ho : okTag (x / 8 : Nat) (x % 8 : Nat) = false := by
        cases h : okTag (x / 8 : Nat) (x % 8 : Nat) with
        | false => rfl
        | true => have := okTag_iff.1 h; omega
      have HV := Lib.hid (ttake_no HX.out ho)
      clear ho
      go_enter Try.func78, Try.ntmps78
      go_wp2_with fail
      refine (rtake_any A n c bs w hb h hnc hmax).mono ?_
      rintro e' w1 ⟨rfl, hb1⟩
      rw [HT.out]
      go_wp2
      refine bodyPost_ret (results4 rfl _ _ _) rfl ?_
      exact ⟨by rw [HV.out]; rfl, hb1⟩
    · go_enter Try.func78, Try.ntmps78
      go_wp2_with fail
      refine (rtake_any A n c bs w hb h hnc hmax).mono ?_
      rintro e' w1 ⟨rfl, hb1⟩
      rw [HT.out]
      go_wp2_with fail
      rw [show (x : Int) / 8 = ((x / 8 : Nat) : Int) by omega, show (x : Int) % 8 = ((x % 8 : Nat) : Int) by omega]
      refine (rput_tag ((x / 8 : Nat) : Int) ((x % 8 : Nat) : Int) w1 (by omega) (by omega) (by omega) (by omega)).mono ?_
      rintro e' w2 ⟨v, rfl, hown, hb2⟩
      have hb12 : Below w.heap.size w w2 := hb1.trans (hb2.mono hb1.size)
      clear hown
      cases ho : okTag (x / 8 : Nat) (x % 8 : Nat) with
      | false =>
        rw [tput_no ho]
        have HV := Lib.hid (ttake_no HX.out ho)
        clear ho
        go_wp2
        refine bodyPost_ret (results4 rfl _ _ _) rfl ?_
        exact ⟨by rw [HV.out]; rfl, hb12⟩
      | true =>
        rw [tput_ok ho]
        have HV := Lib.hid (ttake_ok HX.out ho)
        clear ho
        go_wp2
        refine bodyPost_ret (results4 rfl _ _ _) rfl ?_
        exact ⟨by rw [HV.out]; rfl, hb12⟩
  · have q1 : ((e : Int) != 0) = true := by rw [bne_iff_ne]; omega
    have HV := Lib.hid (ttake_bad HX.out he)
    go_enter Try.func78, Try.ntmps78
    go_wp2_with fail
    refine (rtake_any A n c bs w hb h hnc hmax).mono ?_
    rintro e' w1 ⟨rfl, hb1⟩
    rw [HT.out]
    go_wp2
    refine bodyPost_ret (results4 rfl _ _ _) rfl ?_
    exact ⟨by rw [HV.out]; rfl, hb1⟩

set_option maxHeartbeats 1000000 in
set_option maxRecDepth 100000 in
theorem rskip_tag (A : Option Addr) (n c : Nat) (bs : List Nat) (w : World) (hb : ∀ c ∈ bs, c < 256) (h : Rd w w.heap.size 1 A n (bvs bs)) (hnc : n ≤ c) (hmax : c ≤ 9223372036854775807) :
    Calls Try.prog 77 #[.slice A n c] w fun e w' => e = .returned (.tuple #[.int .i64 ((tskip bs).1 : Nat), .int .i64 ((tskip bs).2 : Nat)]) ∧ Below w.heap.size w w' := by
  obtain ⟨num, wire, size, err, ht⟩ : ∃ num wire size err, ttake bs = ⟨num, wire, size, err⟩ := ⟨_, _, _, _, rfl⟩
  have hle := ttake_le hb
  rw [ht] at hle
  obtain ⟨hn1, hw1, hs1, hs2⟩ : num ≤ 1000 ∧ wire ≤ 2 ∧ size ≤ 10 ∧ size ≤ bs.length := hle
  have hlen : bs.length = n := by have := h.1; rw [bvs_len] at this; omega
  have hs3 : size ≤ n := by omega
  have HT := Lib.hid (show tagged (ttake bs) = .tuple #[.int .i64 (num : Int), .int .i64 (wire : Int), .int .i64 (size : Int), .int .i64 (err : Int)] by rw [ht]; rfl)
  have HL := Lib.hid hlen
  have HH := Lib.hid ht
  clear hlen
  by_cases he : err = 0
  · subst he
    have hback := ttake_back hb (by rw [ht])
    rw [ht] at hback
    obtain ⟨hok, hsz1, _⟩ : okTag num wire = true ∧ 1 ≤ size ∧ _ := hback
    have hwire : wire = 0 ∨ wire = 2 := by have := (okTag_iff.1 hok).2.2; omega
    clear hok
    have hbd : ∀ c ∈ bs.drop size, c < 256 := fun c hc => hb c (List.mem_of_mem_drop hc)
    obtain ⟨x, k, e, hx⟩ : ∃ x k e, take (bs.drop size) = (x, k, e) := ⟨_, _, _, rfl⟩
    have hle2 := take_le hbd
    rw [hx] at hle2
    obtain ⟨hk10, hkl, hx64, he3⟩ : k ≤ 10 ∧ k ≤ (bs.drop size).length ∧ x < 18446744073709551616 ∧ e ≤ 3 := hle2
    have hkl : k ≤ n - size := by rw [List.length_drop] at hkl; have := HL.out; omega
    have HX := Lib.hid hx
    have HT2 := Lib.hid (show taken (take (bs.drop size)) = .tuple #[.int .u64 (x : Int), .int .i64 (k : Int), .int .i64 (e : Int)] by rw [hx]; rfl)
    have hcut := h.bytes_from hs3 hnc
    obtain ⟨i0, hi, hz0, hz1, hz2⟩ := info_parts byte_info
    have hsl := run_from (P := Try.prog) 25 5 i0 1 Try.underlying25 hi hz1 A n c size .i64 hs3
    have HR := Lib.hid h
    have HB := Lib.hid hb
    have HBD := Lib.hid hbd
    have HC := Lib.hid hcut
    clear hx ht hcut h hb hbd
    generalize cutAt A c 1 size = A2 at *
    go_enter Try.func77, Try.ntmps77
    go_wp2_with fail
    refine (rtake_tag _ n c bs w HB.out HR.out hnc hmax).mono ?_
    rintro e' w1 ⟨rfl, hb1⟩
    rw [HT.out]
    go_wp2_with fail
    refine (rtake_any A2 (n - size) (c - size) (bs.drop size) w1 HBD.out ((HC.out.below hb1).more hb1.size) (by omega) (by omega)).mono ?_
    rintro e' w2 ⟨rfl, hb2⟩
    rw [HT2.out]
    have hb12 : Below w.heap.size w w2 := hb1.trans (hb2.mono hb1.size)
    by_cases he2 : e = 0
    · subst he2
      rcases hwire with rfl | rfl
      · have HV := Lib.hid (tskip_num HH.out HX.out)
        go_wp2
        go_ret2
        exact ⟨by rw [HV.out]; exact ret_tuple (by simp), hb12⟩
      · by_cases hbig : 16384 < x
        · have HV := Lib.hid (tskip_big HH.out HX.out hbig)
          go_wp2
          go_ret2
          exact ⟨by rw [HV.out]; rfl, hb12⟩
        · by_cases hsh : n - size - k < x
          · have HV := Lib.hid (tskip_short HH.out HX.out hbig (by rw [HL.out]; exact hsh))
            go_wp2
            go_ret2
            exact ⟨by rw [HV.out]; rfl, hb12⟩
          · have HV := Lib.hid (tskip_bytes HH.out HX.out hbig (by rw [HL.out]; exact hsh))
            go_wp2
            go_ret2
            exact ⟨by rw [HV.out]; exact ret_tuple (by simp), hb12⟩
    · have q1 : ((e : Int) != 0) = true := by rw [bne_iff_ne]; omega
      have HV := Lib.hid (tskip_bad2 HH.out HX.out he2)
      go_wp2
      go_ret2
      exact ⟨by rw [HV.out]; rfl, hb12⟩
  · have q1 : ((err : Int) != 0) = true := by rw [bne_iff_ne]; omega
    have HV := Lib.hid (tskip_bad HH.out he)
    clear ht
    go_enter Try.func77, Try.ntmps77
    go_wp2_with fail
    refine (rtake_tag A n c bs w hb h hnc hmax).mono ?_
    rintro e' w1 ⟨rfl, hb1⟩
    rw [HT.out]
    go_wp2
    go_ret2
    exact ⟨by rw [HV.out]; rfl, hb1⟩
end Go.Proofs.Ytkagonijkalicaa.Tg

/-
  The walk of the reference's Take: a row of fields, taken.
-/
namespace Go.Proofs.Ytkagonijkalicaa
open Go.RowKit
open Tl (Fel falls takeGo takeRow fieldOf)
open Tg (ttake tskip okTag okTag_iff ttake_back T4 rskip_tag rtake_tag tagged)
open Vi (take take_back taken rtake_any)

theorem own_field {w : World} {base : Nat} {e : TypeId} {g m co : Nat} {F : List Fel} {T : List (Option Addr × Nat)} (h : w.ownsRow base e 4 (.slice (some ⟨g, 0, none⟩) m co) m (rcells F T)) (hF : F.length = m) (hT : T.length = m) {k : Nat} (hk : k < m) :
    ∃ (f : Fel) (s : Option Addr × Nat), F[k]? = some f ∧ T[k]? = some s ∧ w.cell? ⟨g, k * 4, none⟩ = some (.int .i64 f.num) ∧ w.cell? ⟨g, k * 4 + 1, none⟩ = some (.int .i64 f.wire) ∧ w.cell? ⟨g, k * 4 + 2, none⟩ = some (.int .u64 (f.n : Int)) ∧ w.cell? ⟨g, k * 4 + 3, none⟩ = some (.slice s.1 f.b.length s.2) := by
  obtain ⟨f, hf⟩ : ∃ f, F[k]? = some f := ⟨F[k]'(by omega), by simp⟩
  obtain ⟨s, hs⟩ : ∃ s, T[k]? = some s := ⟨T[k]'(by omega), by simp⟩
  have hc := h.cells (g := g) rfl
  have hg := fun i (hi : i < 4) => rcells_get F T k i f s hf hs hi
  have hadd : ∀ j : Nat, (⟨g, 0, none⟩ : Addr).add j = ⟨g, j, none⟩ := fun j => by unfold Addr.add; split <;> simp_all
  refine ⟨f, s, hf, hs, ?_, ?_, ?_, ?_⟩
  · rw [← hadd]; exact hc _ _ (by simpa [fcells] using hg 0 (by omega))
  · rw [← hadd]; exact hc _ _ (by simpa [fcells] using hg 1 (by omega))
  · rw [← hadd]; exact hc _ _ (by simpa [fcells] using hg 2 (by omega))
  · rw [← hadd]; exact hc _ _ (by simpa [fcells] using hg 3 (by omega))

def lenOf : Value → Nat
  | .slice _ n _ => n
  | _ => 0

set_option maxHeartbeats 4000000 in
set_option maxRecDepth 100000 in
theorem rtake_row (A : Option Addr) (n c : Nat) (bs : List Nat) (w : World) (hb : ∀ c ∈ bs, c < 256) (h : Rd w w.heap.size 1 A n (bvs bs)) (hnc : n ≤ c) (hmax : c ≤ 9223372036854775807) :
    Calls Try.prog 59 #[.slice A n c] w fun e w' => ∃ v, e = .returned (.tuple #[v, .int .i64 ((takeRow bs).2 : Nat)]) ∧ NewRow w' (takeRow bs).1 v ∧ Below w.heap.size w w' := by
  obtain ⟨i0, hi, hz0, hz1, hz2⟩ := info_parts field_info
  obtain ⟨j0, ji, jz0, jz1, jz2⟩ := info_parts byte_info
  have hlen : bs.length = n := by have := h.1; rw [bvs_len] at this; omega
  have HL := Lib.hid hlen
  have HR := Lib.hid h
  have HB := Lib.hid hb
  clear hlen h hb
  by_cases hbig : 16384 < n
  · have hv : takeRow bs = ([], 4) := by unfold takeRow; rw [if_pos (by rw [HL.out]; exact hbig)]
    have HV := Lib.hid hv
    clear hv
    go_enter Try.func59, Try.ntmps59
    go_wp2
    go_ret2
    refine ⟨.slice none 0 0, by rw [HV.out]; rfl, ?_, Below.refl _ _⟩
    rw [HV.out]
    exact ⟨none, 0, 0, [], rfl, Nat.le_refl _, by omega, RdF.nil _ _ _⟩
  · have hv : takeRow bs = takeGo n none bs := by unfold takeRow; rw [if_neg (by rw [HL.out]; exact hbig), HL.out]
    have HV := Lib.hid hv
    clear hv
    go_enter Try.func59, Try.ntmps59
    go_wp2
    go_loopw [0, 4] (fun b o wr => ∃ (k m n' c' co g : Nat) (A' : Option Addr) (bs' : List Nat) (F : List Fel) (T : List (Option Addr × Nat)), b = .slice A' n' c' ∧ n' ≤ c' ∧ c' ≤ 9223372036854775807 ∧ Rd w w.heap.size 1 A' n' (bvs bs') ∧ n' ≤ k ∧ (∀ c ∈ bs', c < 256) ∧ n' + m ≤ n ∧
        o = .slice (some ⟨g, 0, none⟩) m co ∧ w.heap.size ≤ g ∧ g < wr.heap.size ∧ wr.ownsRow w.heap.size 55 4 (.slice (some ⟨g, 0, none⟩) m co) m (rcells F T) ∧ F.length = m ∧ T.length = m ∧ Lie wr g F T ∧ acc F (takeGo k F.getLast? bs') = takeRow bs ∧ Below w.heap.size w wr) (fun b _ _ => lenOf b)
    case atStart =>
      refine ⟨n, 0, n, c, 0, w.heap.size, A, bs, [], [], rfl, hnc, hmax, HR.out, Nat.le_refl _, HB.out, by omega, rfl, Nat.le_refl _, by simp, ?_, rfl, rfl, Lie.nil _ _, ?_, (Below.refl _ _).alloc (Nat.le_refl _) _⟩
      · simpa [rcells] using World.ownsRow_made (e := 55) (size := 4) w #[] 0 (Nat.le_refl _) (by unfold maxLen; omega) rfl
      · rw [HV.out]; exact acc_nil _ (Tl.takeGo_no n none bs)
    case round =>
      obtain ⟨k, m, n', c', co, g, A', bs', F, T, rfl, hnc', hmax', hr', hnk, hb', hnm, rfl, hwg, hgr, hown, hF, hT, hlie, hacc, hb⟩ := hrel
      have hlen' : bs'.length = n' := by have := hr'.1; rw [bvs_len] at this; omega
      have HR' := Lib.hid hr'
      have HB' := Lib.hid hb'
      have HO := Lib.hid hown
      have HF := Lib.hid hF
      have HT := Lib.hid hT
      have HLI := Lib.hid hlie
      have HAC := Lib.hid hacc
      have HL' := Lib.hid hlen'
      have hsz := hb.size
      clear hr' hb' hown hF hT hlie hacc hlen'
      by_cases hpos : 0 < n'
      · have hne : bs' ≠ [] := fun h => by have := HL'.out; rw [h] at this; simp at this; omega
        obtain ⟨k, rfl⟩ : ∃ k', k = k' + 1 := ⟨k - 1, by omega⟩
        obtain ⟨s, e, hse⟩ : ∃ s e, tskip bs' = (s, e) := ⟨_, _, rfl⟩
        have hskip := rskip_tag A' n' c' bs' wr HB'.out ((HR'.out.below hb).more hsz) hnc' hmax'
        rw [hse] at hskip
        have HSK := Lib.hid hskip
        have HSE := Lib.hid hse
        clear hskip hse
        by_cases he : e = 0
        · subst he
          obtain ⟨num, wire, at_, x, kk, hT4, hX, hnum, hwire, hks, hsl, hs1, hx64, hfo⟩ := take_parts HB'.out HSE.out
          rw [HL'.out] at hsl
          have hat : at_ ≤ n' := by omega
          have hcut := HR'.out.bytes_from hat hnc'
          have hsl1 := run_from (P := Try.prog) 25 5 j0 1 Try.underlying25 ji jz1 A' n' c' at_ .i64 hat
          have hsl2 := run_from (P := Try.prog) 25 5 j0 1 Try.underlying25 ji jz1 A' n' c' s .i64 hsl
          have hcut2 := HR'.out.bytes_from hsl hnc'
          have hsl3 : ∀ w : World, (Instr.sliceAt 25 (.slice A' n' c') (some (.int .i64 ((at_ : Int) + (kk : Int)))) (some (.int .i64 (s : Int))) none).run Try.prog w = .ok (.slice (cutAt A' c' 1 (at_ + kk)) (s - (at_ + kk)) (c' - (at_ + kk))) w := by
            intro w
            have := run_sub (P := Try.prog) 25 5 j0 1 Try.underlying25 ji jz1 A' n' c' (at_ + kk) s .i64 .i64 hks (by omega) w
            simpa using this
          have hcut3 := HR'.out.bytes_sub hks hsl hnc'
          have hbd : ∀ c ∈ bs'.drop at_, c < 256 := fun c hc => HB'.out c (List.mem_of_mem_drop hc)
          obtain ⟨A2, hA2⟩ : ∃ A2, cutAt A' c' 1 at_ = A2 := ⟨_, rfl⟩
          obtain ⟨A3, hA3⟩ : ∃ A3, cutAt A' c' 1 (at_ + kk) = A3 := ⟨_, rfl⟩
          obtain ⟨A4, hA4⟩ : ∃ A4, cutAt A' c' 1 s = A4 := ⟨_, rfl⟩
          rw [hA2] at hcut
          rw [hA4] at hcut2
          rw [hA3] at hcut3
          simp only [hA2] at hsl1
          simp only [hA4] at hsl2
          simp only [hA3] at hsl3
          have HT1 := Lib.hid (show tagged (ttake bs') = .tuple #[.int .i64 (num : Int), .int .i64 (wire : Int), .int .i64 (at_ : Int), .int .i64 0] by rw [hT4]; rfl)
          have HX1 := Lib.hid (show taken (take (bs'.drop at_)) = .tuple #[.int .u64 (x : Int), .int .i64 (kk : Int), .int .i64 0] by rw [hX]; rfl)
          obtain ⟨f, hf⟩ : ∃ f, fieldOf bs' = f := ⟨_, rfl⟩
          rw [hf] at hfo
          have HFO := Lib.hid hfo
          have HFF := Lib.hid hf
          have HC1 := Lib.hid hcut
          have HC2 := Lib.hid hcut2
          have HC3 := Lib.hid hcut3
          have HBD := Lib.hid hbd
          clear hA2 hA3 hA4 hcut hcut2 hcut3 hT4 hX hfo hf hbd
          go_wp2_with fail
          refine HSK.out.mono ?_
          rintro e' w1 ⟨rfl, hb1⟩
          have hbw1 := hb.trans (hb1.mono hsz)
          go_wp2_with fail
          refine (rtake_tag A' n' c' bs' w1 HB'.out ((HR'.out.below hbw1).more hbw1.size) hnc' hmax').mono ?_
          rintro e' w2 ⟨rfl, hb2⟩
          have hbr2 : Below wr.heap.size wr w2 := hb1.trans (hb2.mono hb1.size)
          have hbw2 := hb.trans (hbr2.mono hsz)
          rw [HT1.out]
          clear hb1 hb2 hbw1
          obtain ⟨w3, hw3⟩ : ∃ w3 : World, w3 = w2.alloc (.cells #[.int .i64 (num : Int), .int .i64 (wire : Int), .int .u64 0, .slice none 0 0] 55) := ⟨_, rfl⟩
          obtain ⟨gf, hgf⟩ : ∃ gf, gf = w2.heap.size := ⟨_, rfl⟩
          have hk3 : Blk w3 gf 55 #[.int .i64 (num : Int), .int .i64 (wire : Int), .int .u64 0, .slice none 0 0] := by rw [hw3, hgf]; exact Blk.new _ _ _
          have hbr3 : Below wr.heap.size wr w3 := by rw [hw3]; exact hbr2.alloc hbr2.size _
          have hbw3 := hb.trans (hbr3.mono hsz)
          have hgf2 : wr.heap.size ≤ gf := by rw [hgf]; exact hbr2.size
          have HW3 := Lib.hid hw3
          have HGF := Lib.hid hgf
          have HK3 := Lib.hid hk3
          have hlt3 := hk3.lt
          clear hw3 hgf hk3
          go_wp2_with fail
          rw [← HW3.out, ← HGF.out]
          refine (rtake_any A2 (n' - at_) (c' - at_) (bs'.drop at_) w3 HBD.out ((HC1.out.below hbw3).more hbw3.size) (by omega) (by omega)).mono ?_
          rintro e' w4 ⟨rfl, hb4⟩
          rw [HX1.out]
          have hk4 := HK3.out.below hb4 hlt3
          have hlt4 := hk4.lt
          have hbr4 : Below wr.heap.size wr w4 := hbr3.trans (hb4.mono hbr3.size)
          have hbw4 := hb.trans (hbr4.mono hsz)
          have HK4 := Lib.hid hk4
          have z2 := hk4.frozen 2
          have z3 := hk4.frozen 3
          have y2 := hk4.cell 2
          have y3 := hk4.cell 3
          simp at y2 y3
          clear hk4 hb4 HK3 HW3 HGF HSK HX1 HT1 HC1 HBD hbw3 hbr3 hbw2 hbr2 hlt3
          have hsz4 := hbr4.size
          go_upto_if 49 with fail
          go_cut [] (fun wx => ∃ sp : Option Addr × Nat, Blk wx gf 55 #[.int .i64 f.num, .int .i64 f.wire, .int .u64 (f.n : Int), .slice sp.1 f.b.length sp.2] ∧ Rd wx wx.heap.size 1 sp.1 f.b.length (bvs f.b) ∧ f.b.length ≤ sp.2 ∧ sp.2 ≤ 9223372036854775807 ∧
            (f.b.length = 0 ∨ ∀ ad : Addr, sp.1 = some ad → ad.block ≠ g) ∧ Below wr.heap.size wr wx)
          case first =>
            rcases hwire with rfl | rfl
            · have hfo := HFO.out
              rw [if_pos rfl] at hfo
              have HFO2 := Lib.hid hfo
              clear hfo
              go_wp2
              go_meet
              case rel =>
                rw [HFO2.out]
                refine ⟨(none, 0), ?_, Rd.nil _ _ _ _, by simp, by simp, .inl rfl, hbr4.setCell hgf2 _⟩
                simpa using HK4.out.put 2 (.int .u64 (x : Int))
            · have hfo := HFO.out
              rw [if_neg (by decide)] at hfo
              obtain ⟨ys, hys⟩ : ∃ ys, (bs'.take s).drop (at_ + kk) = ys := ⟨_, rfl⟩
              have hr3 := HC3.out
              rw [hys] at hfo hr3
              have hyl : ys.length = s - (at_ + kk) := by have := hr3.1; rw [bvs_len] at this; omega
              obtain ⟨L, hL⟩ : ∃ L, s - (at_ + kk) = L := ⟨_, rfl⟩
              rw [hL] at hyl hr3 hsl3
              have HFO2 := Lib.hid hfo
              have HR3 := Lib.hid ((hr3.below hbw4).more hbw4.size)
              have HYL := Lib.hid hyl
              have hL16 : L ≤ 16384 := by omega
              clear hfo hys hyl hr3 hL
              go_wp2_with (at_builtin; refine wpList_append_rd _ rfl (.tmp 52) (.tmp 58) 25 rfl w4.heap.size 5 j0 (.int .u8 0) 1 1 Try.underlying25 ji jz0 jz1 jz2 rfl (by decide) _ 0 [] rfl (World.ownsRow_made (e := 5) w4 #[] 0 (Nat.le_refl _) (by unfold maxLen; omega) rfl) w4.heap.size A3 L (c' - (at_ + kk)) (bvs ys) rfl (HR3.out.alloc (Nat.le_refl _) _) (bvs_one _) (by unfold maxLen; omega) (by omega) (by simp) ?_)
              intro v5 w5 hown5 hg5
              have hb5 : Below w4.heap.size w4 w5 := ((Below.refl _ _).alloc (Nat.le_refl _) _).grown hg5 (by simp) (fun k hk => by simp [Value.ownBlock] at hk; omega)
              have hown5' : w5.ownsRow w4.heap.size 5 1 v5 L (bvs ys) := by simpa using hown5
              obtain ⟨A5, c5, rfl, hc5, hc52⟩ := slice_of_own hown5'
              have hk5 := HK4.out.below hb5 hlt4
              have x2 := hk5.frozen 3
              have x3 := hk5.cell 3
              simp at x3
              have HO5 := Lib.hid hown5'
              have HK5 := Lib.hid hk5
              have hbr5 : Below wr.heap.size wr w5 := hbr4.trans (hb5.mono hsz4)
              clear hown5 hg5 hown5' hk5
              go_wp2
              go_meet
              case rel =>
                rw [HFO2.out]
                refine ⟨(A5, c5), ?_, ?_, ?_, hc52, ?_, hbr5.setCell hgf2 _⟩
                · have h1 := HK5.out.put 3 (.slice A5 L c5)
                  simp only []
                  rw [HYL.out]
                  simpa using h1
                · simp only []
                  rw [HYL.out]
                  have h1 := (Rd.of_own HO5.out)
                  have h2 : Rd (w5.setCell ⟨gf, 3, none⟩ (.slice A5 L c5)) w5.heap.size 1 A5 L (bvs ys) := by
                    obtain ⟨r1, r2 | ⟨ad, rfl, r3, r4⟩⟩ := h1
                    · exact ⟨r1, .inl r2⟩
                    · refine ⟨r1, .inr ⟨ad, rfl, r3, fun j u hu => ?_⟩⟩
                      have hne : (ad.add j).block ≠ gf := by
                        rw [add_block]
                        have := own_at HO5.out ad rfl
                        omega
                      rw [World.cell?_of_block (w := w5) (Below.heap_setCell w5 ⟨gf, 3, none⟩ (.slice (some ad) L c5) (ad.add j).block (by simpa using hne))]
                      exact r4 j u hu
                  simpa [World.setCell] using h2
                · simp only []; rw [HYL.out]; exact hc5
                · right
                  intro ad had
                  have := own_at HO5.out ad had
                  omega
          case rest =>
            obtain ⟨sp, hk8, hr8, hs8, hm8, ha8, hbr8⟩ := hcut
            obtain ⟨w8, rfl⟩ : ∃ w8, w8 = wc := ⟨_, rfl⟩
            have HK8 := Lib.hid hk8
            have HR8 := Lib.hid hr8
            have hlt8 := hk8.lt
            have HO8 := Lib.hid (own_below HO.out hbr8)
            have HL8 := Lib.hid (HLI.out.below hbr8)
            have hg8 : g < w8.heap.size := Nat.lt_of_lt_of_le hgr hbr8.size
            clear hk8 hr8 hsl3 hsl1 y2 y3 z2 z3 HK4 HFO HC3
            by_cases hm0 : 0 < m
            · obtain ⟨i, rfl⟩ : ∃ i, m = i + 1 := ⟨m - 1, by omega⟩
              obtain ⟨p, tp, hp, _, p0, p1, p2, p3⟩ := own_field HO8.out HF.out HT.out (show i < i + 1 by omega)
              have hlast : F.getLast? = some p := by rw [List.getLast?_eq_getElem?, HF.out]; exact hp
              obtain ⟨D, hD⟩ : ∃ D, falls p f = D := ⟨_, rfl⟩
              have HFD := Lib.hid hD
              have HLD := Lib.hid (show F.getLast?.any (falls · f) = D by rw [hlast]; exact hD)
              have hi16 : i ≤ 16384 := by omega
              clear hD hlast hp
              go_upto_region 14 with fail
              go_cut [73] (fun b wx => b = .bool D ∧ Below w8.heap.size w8 wx)
              case first =>
                refine wp_region_grew (n := 82) (Say [(61, isv (.slice (some ⟨g, 0, none⟩) (i + 1) co)), (62, isv (.int .i64 ((i + 1 : Nat) : Int))), (63, isv (.bool true)), (64, isv (.bool true)), (65, isv (.slice (some ⟨g, 0, none⟩) (i + 1) co)), (66, isv (.slice (some ⟨g, 0, none⟩) (i + 1) co)), (67, isv (.int .i64 ((i + 1 : Nat) : Int))), (68, isv (.int .i64 (i : Int))), (69, isv (.pointer (some ⟨g, i * 4, none⟩))), (70, isv (aggOf p tp)), (71, isv (aggOf f sp)), (72, isv (.bool D)), (73, isv (.bool D))]) (by kernel_rfl) (by kernel_rfl) rfl ⟨?_, ?_, ?_, ?_, ?_, ?_, ?_, ?_, ?_, ?_, ?_, ?_, ?_, trivial⟩ ?_
                · exact owed_move rfl rfl (.inl rfl) fun fr w _ hK => known_out hK 4 (by kernel_rfl)
                · refine owed_val _ rfl rfl (fun _ => rfl) fun fr w hC hK => ?_
                  have k61 : slot fr 61 = .slice (some ⟨g, 0, none⟩) (i + 1) co := known_in hK 61 (by kernel_rfl)
                  clear hK
                  unfold slot at k61
                  go_simp
                · refine owed_val _ rfl rfl (fun _ => rfl) fun fr w hC hK => ?_
                  have k62 : slot fr 62 = .int .i64 ((i + 1 : Nat) : Int) := known_in hK 62 (by kernel_rfl)
                  clear hK
                  unfold slot at k62
                  go_simp
                · exact owed_move rfl rfl (.inl rfl) fun fr w _ hK => known_in hK 63 (by kernel_rfl)
                · exact owed_movew rfl rfl rfl (by kernel_rfl) (fun _ _ h => h) (.inl rfl) fun fr w _ hK => known_out hK 4 (by kernel_rfl)
                · exact owed_movew rfl rfl rfl (by kernel_rfl) (fun _ _ h => h) (.inl rfl) fun fr w _ hK => known_out hK 4 (by kernel_rfl)
                · refine owed_wval _ rfl rfl rfl (by kernel_rfl) (fun _ _ h => h) (fun _ => rfl) fun fr w hC hK => ?_
                  have k66 : slot fr 66 = .slice (some ⟨g, 0, none⟩) (i + 1) co := known_in hK 66 (by kernel_rfl)
                  clear hK
                  unfold slot at k66
                  go_simp
                · refine owed_wval _ rfl rfl rfl (by kernel_rfl) (fun _ _ h => h) (fun _ => rfl) fun fr w hC hK => ?_
                  have k67 : slot fr 67 = .int .i64 ((i + 1 : Nat) : Int) := known_in hK 67 (by kernel_rfl)
                  clear hK
                  unfold slot at k67
                  have f1 : IntKind.i64.wrap (i : Int) = (i : Int) := by rw [IntKind.wrap_i64]; omega
                  go_simp
                · refine owed_wval _ rfl rfl rfl (by kernel_rfl) (fun _ _ h => h) (fun _ => rfl) fun fr w hC hK => ?_
                  have k65 : slot fr 65 = .slice (some ⟨g, 0, none⟩) (i + 1) co := known_in hK 65 (by kernel_rfl)
                  have k68 : slot fr 68 = .int .i64 (i : Int) := known_in hK 68 (by kernel_rfl)
                  clear hK
                  unfold slot at k65 k68
                  have f1 : i < i + 1 := by omega
                  have f2 : ¬ ((i : Int) + 1 ≤ (i : Int)) := by omega
                  go_simp
                · refine owed_wval _ rfl rfl rfl (by kernel_rfl) (fun _ _ h => h) (fun _ => rfl) fun fr w hC hK => ?_
                  have k69 : slot fr 69 = .pointer (some ⟨g, i * 4, none⟩) := known_in hK 69 (by kernel_rfl)
                  clear hK
                  unfold slot at k69
                  unfold aggOf
                  have x0 := (Below.cell hC (p := ⟨g, i * 4, none⟩) hg8).trans p0
                  have x1 := (Below.cell hC (p := ⟨g, i * 4 + 1, none⟩) hg8).trans p1
                  have x2 := (Below.cell hC (p := ⟨g, i * 4 + 2, none⟩) hg8).trans p2
                  have x3 := (Below.cell hC (p := ⟨g, i * 4 + 3, none⟩) hg8).trans p3
                  go_simp
                · refine owed_wval _ rfl rfl rfl (by kernel_rfl) (fun _ _ h => h) (fun _ => rfl) fun fr w hC hK => ?_
                  have k11 : slot fr 11 = .pointer (some ⟨gf, 0, none⟩) := known_out hK 11 (by kernel_rfl)
                  clear hK
                  unfold slot at k11
                  unfold aggOf
                  have hk := Blk.below HK8.out hC hlt8
                  have x0 := hk.cell 0
                  have x1 := hk.cell 1
                  have x2 := hk.cell 2
                  have x3 := hk.cell 3
                  simp at x0 x1 x2 x3
                  go_simp
                · refine owed_wanted rfl rfl rfl (by kernel_rfl) (fun _ _ h => h) fun fr w hC hK K hk => ?_
                  have k70 : slot fr 70 = aggOf p tp := known_in hK 70 (by kernel_rfl)
                  have k71 : slot fr 71 = aggOf f sp := known_in hK 71 (by kernel_rfl)
                  clear hK
                  unfold slot at k70 k71
                  go_simp
                  refine (falls_any p f tp sp w).mono ?_
                  rintro e w' ⟨rfl, hb⟩
                  exact hk _ _ hb (congrArg Value.bool HFD.out)
                · refine owed_val _ rfl rfl (fun _ => rfl) fun fr w hC hK => ?_
                  have k64 : slot fr 64 = .bool true := known_in hK 64 (by kernel_rfl)
                  have k72 : slot fr 72 = .bool D := known_in hK 72 (by kernel_rfl)
                  clear hK
                  unfold slot at k64 k72
                  go_simp
                intro vs w' hg hgood
                have h6 : vs 73 = .bool D := hgood.2.2.2.2.2.2.2.2.2.2.2.2.1
                clear hgood
                simp only [putsOf]
                rw [h6]
                go_simp
                go_wp2
                go_meet
                case rel => exact ⟨rfl, hg⟩
              case rest =>
                obtain ⟨rfl, hb9⟩ := hcut
                obtain ⟨w9, rfl⟩ : ∃ w9, w9 = wc := ⟨_, rfl⟩
                have hbr9 : Below wr.heap.size wr w9 := hbr8.trans (hb9.mono hbr8.size)
                have hbw9 := hb.trans (hbr9.mono hsz)
                have hk9 := HK8.out.below hb9 hlt8
                have x0 := hk9.cell 0
                have x1 := hk9.cell 1
                have x2 := hk9.cell 2
                have x3 := hk9.cell 3
                simp at x0 x1 x2 x3
                have HO9 := Lib.hid (own_below HO8.out hb9)
                have HL9 := Lib.hid ((HL8.out.below hb9).snoc (by rw [HT.out, HF.out]) ((HR8.out.below hb9).more hb9.size) hs8 hm8 ha8)
                have hszw9 := hbw9.size
                clear hk9 HO8 HL8 HR8 HK8 hb9
                cases D with
                | true =>
                  have hfin : takeRow bs = ([], 5) := by rw [← HAC.out, takeGo_falls HSE.out hne (by rw [HFF.out]; exact HLD.out), acc_bad (by decide)]
                  have HFI := Lib.hid hfin
                  clear hfin hne
                  go_wp2
                  go_ret2
                  refine ⟨.slice none 0 0, by rw [HFI.out]; rfl, ?_, hbw9⟩
                  rw [HFI.out]
                  exact ⟨none, 0, 0, [], rfl, Nat.le_refl _, by omega, RdF.nil _ _ _⟩
                | false =>
                  have hgo : acc (F ++ [f]) (takeGo k (F ++ [f]).getLast? (bs'.drop s)) = takeRow bs := by
                    rw [← HAC.out, takeGo_go HSE.out hne (by rw [HFF.out]; exact HLD.out), acc_acc, HFF.out, List.getLast?_append]
                    rfl
                  have HGO := Lib.hid hgo
                  have hmlt : i + 1 ≤ 16384 := by omega
                  clear hgo hne
                  go_wp2_with (at_builtin; refine wpList_append_lies _ rfl (.tmp 74) (.tmp 76) 40 rfl w.heap.size 55 i0 (.agg #[.int .i64 0, .int .i64 0, .int .u64 0, .slice none 0 0]) 4 48 Try.underlying40 hi hz0 hz1 hz2 rfl (by decide) _ (i + 1) _ rfl (HO9.out.alloc _) ⟨w9.heap.size, 0, none⟩ 1 1 [.int .i64 f.num, .int .i64 f.wire, .int .u64 (f.n : Int), .slice sp.1 f.b.length sp.2] rfl rfl (cells4_new _ _ _ _ _ _) (few_one _ _ _ _ _ _) (by decide) (by unfold maxLen; omega) (by omega) (by simp; omega) (w9.heap.size + 1) (by simp) ?_)
                  intro g2 cap w10 hown10 hgrow10 hat10 hltg10
                  have hb10 : Below w.heap.size w w10 := (hbw9.alloc hszw9 _).grown hgrow10 (by simp; omega) (fun k hk => (HO9.out.lt k hk).1)
                  have HL10 := Lib.hid (HL9.out.grown hgrow10 hat10)
                  have hwg2 : w.heap.size ≤ g2 := (hown10.lt g2 (by simp [Value.ownBlock])).1
                  have HO10 := Lib.hid hown10
                  clear hown10 hgrow10 hat10
                  go_wp2
                  go_roundw
                  case rel =>
                    refine ⟨k, (i + 1) + 1, n' - s, c' - s, cap, g2, A4, bs'.drop s, F ++ [f], T ++ [sp], rfl, by omega, by omega, HC2.out, by omega, fun c hc => HB'.out c (List.mem_of_mem_drop hc), by omega, rfl, hwg2, hltg10, ?_, by simp [HF.out], by simp [HT.out], HL10.out, HGO.out, hb10⟩
                    rw [rcells_app _ _ _ _ (by rw [HT.out, HF.out]), rcells_one]
                    exact HO10.out
                  case measure => simp [lenOf]; omega
            · obtain rfl : m = 0 := by omega
              have hFn : F = [] := List.eq_nil_of_length_eq_zero HF.out
              obtain ⟨D, hD⟩ : ∃ D, D = false := ⟨_, rfl⟩
              have HLD := Lib.hid (show F.getLast?.any (falls · f) = D by rw [hFn, hD]; rfl)
              clear hFn
              go_upto_region 14 with fail
              go_cut [73] (fun b wx => b = .bool D ∧ Below w8.heap.size w8 wx)
              case first =>
                subst hD
                go_quiet (fail)
                go_wp2
                go_meet
                case rel => exact ⟨rfl, bel_drewN (Below.refl _ _) _⟩
              case rest =>
                clear hD
                obtain ⟨rfl, hb9⟩ := hcut
                obtain ⟨w9, rfl⟩ : ∃ w9, w9 = wc := ⟨_, rfl⟩
                have hbr9 : Below wr.heap.size wr w9 := hbr8.trans (hb9.mono hbr8.size)
                have hbw9 := hb.trans (hbr9.mono hsz)
                have hk9 := HK8.out.below hb9 hlt8
                have x0 := hk9.cell 0
                have x1 := hk9.cell 1
                have x2 := hk9.cell 2
                have x3 := hk9.cell 3
                simp at x0 x1 x2 x3
                have HO9 := Lib.hid (own_below HO8.out hb9)
                have HL9 := Lib.hid ((HL8.out.below hb9).snoc (by rw [HT.out, HF.out]) ((HR8.out.below hb9).more hb9.size) hs8 hm8 ha8)
                have hszw9 := hbw9.size
                clear hk9 HO8 HL8 HR8 HK8 hb9
                cases D with
                | true =>
                  have hfin : takeRow bs = ([], 5) := by rw [← HAC.out, takeGo_falls HSE.out hne (by rw [HFF.out]; exact HLD.out), acc_bad (by decide)]
                  have HFI := Lib.hid hfin
                  clear hfin hne
                  go_wp2
                  go_ret2
                  refine ⟨.slice none 0 0, by rw [HFI.out]; rfl, ?_, hbw9⟩
                  rw [HFI.out]
                  exact ⟨none, 0, 0, [], rfl, Nat.le_refl _, by omega, RdF.nil _ _ _⟩
                | false =>
                  have hgo : acc (F ++ [f]) (takeGo k (F ++ [f]).getLast? (bs'.drop s)) = takeRow bs := by
                    rw [← HAC.out, takeGo_go HSE.out hne (by rw [HFF.out]; exact HLD.out), acc_acc, HFF.out, List.getLast?_append]
                    rfl
                  have HGO := Lib.hid hgo
                  clear hgo hne
                  go_wp2_with (at_builtin; refine wpList_append_lies _ rfl (.tmp 74) (.tmp 76) 40 rfl w.heap.size 55 i0 (.agg #[.int .i64 0, .int .i64 0, .int .u64 0, .slice none 0 0]) 4 48 Try.underlying40 hi hz0 hz1 hz2 rfl (by decide) _ 0 _ rfl (HO9.out.alloc _) ⟨w9.heap.size, 0, none⟩ 1 1 [.int .i64 f.num, .int .i64 f.wire, .int .u64 (f.n : Int), .slice sp.1 f.b.length sp.2] rfl rfl (cells4_new _ _ _ _ _ _) (few_one _ _ _ _ _ _) (by decide) (by unfold maxLen; omega) (by omega) (by simp; omega) (w9.heap.size + 1) (by simp) ?_)
                  intro g2 cap w10 hown10 hgrow10 hat10 hltg10
                  have hb10 : Below w.heap.size w w10 := (hbw9.alloc hszw9 _).grown hgrow10 (by simp; omega) (fun k hk => (HO9.out.lt k hk).1)
                  have HL10 := Lib.hid (HL9.out.grown hgrow10 hat10)
                  have hwg2 : w.heap.size ≤ g2 := (hown10.lt g2 (by simp [Value.ownBlock])).1
                  have HO10 := Lib.hid hown10
                  clear hown10 hgrow10 hat10
                  go_wp2
                  go_roundw
                  case rel =>
                    refine ⟨k, 0 + 1, n' - s, c' - s, cap, g2, A4, bs'.drop s, F ++ [f], T ++ [sp], rfl, by omega, by omega, HC2.out, by omega, fun c hc => HB'.out c (List.mem_of_mem_drop hc), by omega, rfl, hwg2, hltg10, ?_, by simp [HF.out], by simp [HT.out], HL10.out, HGO.out, hb10⟩
                    rw [rcells_app _ _ _ _ (by rw [HT.out, HF.out]), rcells_one]
                    exact HO10.out
                  case measure => simp [lenOf]; omega
        · have hfin : takeRow bs = ([], e) := by rw [← HAC.out, Tl.takeGo_bad HSE.out he hne, acc_bad he]
          have HFI := Lib.hid hfin
          have q : ((e : Int) != 0) = true := by rw [bne_iff_ne]; omega
          clear hfin hne
          go_wp2_with fail
          refine HSK.out.mono ?_
          rintro e' w1 ⟨rfl, hb1⟩
          have hbw1 := hb.trans (hb1.mono hsz)
          go_wp2
          go_ret2
          refine ⟨.slice none 0 0, by rw [HFI.out]; rfl, ?_, hbw1⟩
          rw [HFI.out]
          exact ⟨none, 0, 0, [], rfl, Nat.le_refl _, by omega, RdF.nil _ _ _⟩
      · obtain rfl : n' = 0 := by omega
        have hnil : bs' = [] := List.eq_nil_of_length_eq_zero HL'.out
        have hfin : takeRow bs = (F, 0) := by rw [← HAC.out, hnil, takeGo_end]; simp [acc]
        have HFI := Lib.hid hfin
        have hc2 := own_cap HO.out
        clear hfin hnil
        go_wp2
        go_ret2
        refine ⟨.slice (some ⟨g, 0, none⟩) m co, by rw [HFI.out]; rfl, ?_, hb⟩
        rw [HFI.out]
        exact ⟨_, m, co, T, rfl, hc2.1, hc2.2, HF.out, HT.out, Rd.of_own HO.out, fun k f s hf hs => ⟨(HLI.out k f s hf hs).1, (HLI.out k f s hf hs).2.1, (HLI.out k f s hf hs).2.2.1⟩⟩
end Go.Proofs.Ytkagonijkalicaa

/-
  The walk of the reference's Split: a row of fields, parted.
-/
namespace Go.Proofs.Ytkagonijkalicaa
open Go.RowKit
open Tl (Fel)

/-- Fields that are some of a row's, each with the place of its bytes. -/
def Pairs (F : List Fel) (T : List (Option Addr × Nat)) (l : List Fel) (S : List (Option Addr × Nat)) : Prop :=
  T.length = F.length ∧ ∀ (k : Nat) (f : Fel) (s : Option Addr × Nat), F[k]? = some f → T[k]? = some s → ∃ i : Nat, l[i]? = some f ∧ S[i]? = some s
theorem Pairs.nil (l : List Fel) (S : List (Option Addr × Nat)) : Pairs [] [] l S := ⟨rfl, fun k f s h => by simp at h⟩
theorem Pairs.snoc {F l : List Fel} {T S : List (Option Addr × Nat)} (h : Pairs F T l S) {j : Nat} {f : Fel} {s : Option Addr × Nat} (hf : l[j]? = some f) (hs : S[j]? = some s) : Pairs (F ++ [f]) (T ++ [s]) l S := by
  refine ⟨by simp [h.1], fun k g t hg ht => ?_⟩
  by_cases hk : k < F.length
  · rw [List.getElem?_append_left hk] at hg
    rw [List.getElem?_append_left (by rw [h.1]; exact hk)] at ht
    exact h.2 k g t hg ht
  · have hk2 := (List.getElem?_eq_some_iff.1 hg).1
    rw [List.length_append, List.length_singleton] at hk2
    obtain rfl : k = F.length := by omega
    rw [List.getElem?_append_right (Nat.le_refl _), Nat.sub_self] at hg
    rw [List.getElem?_append_right (by rw [h.1]; exact Nat.le_refl _), h.1, Nat.sub_self] at ht
    simp at hg ht
    subst hg ht
    exact ⟨j, hf, hs⟩
theorem Pairs.rd {w : World} {B n : Nat} {A : Option Addr} {F l : List Fel} {T S : List (Option Addr × Nat)} (h : Pairs F T l S) (hr : RdF w B A n l S) (k : Nat) (f : Fel) (s : Option Addr × Nat) (hf : F[k]? = some f) (hs : T[k]? = some s) :
    Rd w B 1 s.1 f.b.length (bvs f.b) ∧ f.b.length ≤ s.2 ∧ s.2 ≤ 9223372036854775807 := by
  obtain ⟨i, h1, h2⟩ := h.2 k f s hf hs
  exact hr.2.2.2 i f s h1 h2

/-- One field more on one of two rows. -/
theorem two_step {w wr w2 : World} {e : TypeId} {g1 g2 n1 n2 c1 c2 g cap H : Nat} {F1 : List Fel} {T1 : List (Option Addr × Nat)} {xs2 : List Value} {f : Fel} {s : Option Addr × Nat} {o : Obj} (hb : Below w.heap.size w wr) (hT : T1.length = F1.length) (hgg : g1 ≠ g2) (hg2 : g2 < wr.heap.size)
    (h1 : wr.ownsRow w.heap.size e 4 (.slice (some ⟨g1, 0, none⟩) n1 c1) n1 (rcells F1 T1)) (h2 : wr.ownsRow w.heap.size e 4 (.slice (some ⟨g2, 0, none⟩) n2 c2) n2 xs2)
    (hown : w2.ownsRow w.heap.size e 4 (.slice (some ⟨g, 0, none⟩) (n1 + 1) cap) (n1 + 1) (rcells F1 T1 ++ fcells f s)) (hgrow : (wr.alloc o).grownBy w2 (Value.slice (some ⟨g1, 0, none⟩) n1 c1).ownBlock) (hat : (Value.slice (some ⟨g1, 0, none⟩) n1 c1).ownBlock = some g ∨ g = H) (hH : H = wr.heap.size + 1) :
    w2.ownsRow w.heap.size e 4 (.slice (some ⟨g, 0, none⟩) (n1 + 1) cap) (n1 + 1) (rcells (F1 ++ [f]) (T1 ++ [s])) ∧ w2.ownsRow w.heap.size e 4 (.slice (some ⟨g2, 0, none⟩) n2 c2) n2 xs2 ∧ g ≠ g2 ∧ g < w2.heap.size ∧ g2 < w2.heap.size ∧ Below w.heap.size w w2 := by
  have hsz := hb.size
  have hb2 : Below w.heap.size w w2 := (hb.alloc hsz _).grown hgrow (by simp; omega) (fun k hk => by simp [Value.ownBlock] at hk; have := (h1.lt k (by simp [Value.ownBlock, hk])).1; omega)
  have hlt := (hown.lt g (by simp [Value.ownBlock])).2
  have hs2 : wr.heap.size + 1 ≤ w2.heap.size := by have := hgrow.size; simpa using this
  refine ⟨?_, ?_, ?_, hlt, by omega, hb2⟩
  · rw [rcells_app _ _ _ _ hT, rcells_one]; exact hown
  · exact (h2.alloc o).kept hgrow (.inr (by simp [Value.ownBlock]; omega))
  · rcases hat with h | h
    · simp [Value.ownBlock] at h; omega
    · omega
theorem filter_snoc {l : List Fel} {j : Nat} {f : Fel} (p : Fel → Bool) (h : l[j]? = some f) : (l.take (j + 1)).filter p = (l.take j).filter p ++ if p f then [f] else [] := by
  rw [List.take_add_one, h, List.filter_append]
  simp [List.filter_cons]

set_option maxHeartbeats 1000000 in
set_option maxRecDepth 100000 in
theorem rsplit_any (A : Option Addr) (n c : Nat) (most : Int) (l : List Fel) (S : List (Option Addr × Nat)) (w : World) (h : RdF w w.heap.size A n l S) (hnc : n ≤ c) (hmax : c ≤ 9223372036854775807) (hn : n ≤ 1000000) :
    Calls Try.prog 61 #[.slice A n c, .int .i64 most] w fun e w' => ∃ u v, e = .returned (.tuple #[u, v]) ∧ NewRow w' (l.filter fun f => decide (f.num ≤ most)) u ∧ NewRow w' (l.filter fun f => !decide (f.num ≤ most)) v ∧ Below w.heap.size w w' := by
  obtain ⟨i0, hi, hz0, hz1, hz2⟩ := info_parts field_info
  have HR := Lib.hid h
  have HN := Lib.hid h.1
  clear h
  go_enter Try.func61, Try.ntmps61
  go_wp2
  go_loopw [6, 7, 8] (fun u v i wr => ∃ (j n1 n2 c1 c2 g1 g2 : Nat) (F1 F2 : List Fel) (T1 T2 : List (Option Addr × Nat)), j ≤ n ∧ i = .int .i64 (j : Int) ∧ u = .slice (some ⟨g1, 0, none⟩) n1 c1 ∧ v = .slice (some ⟨g2, 0, none⟩) n2 c2 ∧ g1 ≠ g2 ∧ g1 < wr.heap.size ∧ g2 < wr.heap.size ∧ n1 ≤ j ∧ n2 ≤ j ∧
      wr.ownsRow w.heap.size 55 4 (.slice (some ⟨g1, 0, none⟩) n1 c1) n1 (rcells F1 T1) ∧ wr.ownsRow w.heap.size 55 4 (.slice (some ⟨g2, 0, none⟩) n2 c2) n2 (rcells F2 T2) ∧
      Pairs F1 T1 l S ∧ Pairs F2 T2 l S ∧ (l.take j).filter (fun f => decide (f.num ≤ most)) = F1 ∧ (l.take j).filter (fun f => !decide (f.num ≤ most)) = F2 ∧ F1.length = n1 ∧ F2.length = n2 ∧ Below w.heap.size w wr) (fun _ _ i _ => n - (intOf i).toNat)
  case atStart =>
    have r1 : ((w.alloc (.cells #[] 55)).alloc (.cells #[] 55)).ownsRow w.heap.size 55 4 (.slice (some ⟨w.heap.size, 0, none⟩) 0 0) 0 [] := (World.ownsRow_made w #[] 0 (Nat.le_refl _) (by unfold maxLen; omega) rfl).alloc _
    have r2 : ((w.alloc (.cells #[] 55)).alloc (.cells #[] 55)).ownsRow w.heap.size 55 4 (.slice (some ⟨w.heap.size + 1, 0, none⟩) 0 0) 0 [] := by
      have h := World.ownsRow_made (e := 55) (size := 4) (base := w.heap.size) (w.alloc (.cells #[] 55)) #[] 0 (by simp) (by unfold maxLen; omega) rfl
      simpa using h
    exact ⟨0, 0, 0, 0, 0, w.heap.size, w.heap.size + 1, [], [], [], [], by omega, rfl, rfl, rfl, by omega, by simp; omega, by simp, by omega, by omega, r1, r2, Pairs.nil _ _, Pairs.nil _ _, rfl, rfl, rfl, rfl, ((Below.refl _ _).alloc (Nat.le_refl _) _).alloc (by simp) _⟩
  case round =>
    obtain ⟨j, n1, n2, c1, c2, g1, g2, F1, F2, T1, T2, hj, rfl, rfl, rfl, hgg, hg1, hg2, hn1, hn2, hown1, hown2, hp1, hp2, hF1, hF2, hl1, hl2, hb⟩ := hrel
    have HO1 := Lib.hid hown1
    have HO2 := Lib.hid hown2
    have HF1 := Lib.hid hF1
    have HF2 := Lib.hid hF2
    have HL1 := Lib.hid hl1
    have HL2 := Lib.hid hl2
    have hsz := hb.size
    clear hown1 hown2 hF1 hF2 hl1 hl2
    by_cases hlt : j < n
    · obtain ⟨ad, f, s, rfl, hab, hf, hs, k0, k1, k2, k3, hrd, hs1, hs2⟩ := (HR.out.below hb).spell hlt
      have hw1 := few_one f.num f.wire (f.n : Int) s.1 f.b.length s.2
      have hTF1 := hp1.1
      have hTF2 := hp2.1
      by_cases hm : f.num ≤ most
      · go_wp2_with (at_builtin; refine wpList_append_lies _ rfl (.tmp 24) (.tmp 29) 40 rfl w.heap.size 55 i0 (.agg #[.int .i64 0, .int .i64 0, .int .u64 0, .slice none 0 0]) 4 48 Try.underlying40 hi hz0 hz1 hz2 rfl (by decide) _ n1 _ rfl (HO1.out.alloc _) ⟨wr.heap.size, 0, none⟩ 1 1 [.int .i64 f.num, .int .i64 f.wire, .int .u64 (f.n : Int), .slice s.1 f.b.length s.2] rfl rfl (cells4_new _ _ _ _ _ _) hw1 (by decide) (by unfold maxLen; omega) (by omega) (by simp; omega) (wr.heap.size + 1) (by simp) ?_)
        intro g cap w2 hown hgrow hat hltg
        obtain ⟨r1, r2, r3, r4, r5, r6⟩ := two_step (f := f) (s := s) hb hTF1 hgg hg2 HO1.out HO2.out hown hgrow hat rfl
        clear hown hgrow hat hltg
        go_wp2
        go_roundw
        case rel =>
          refine ⟨j + 1, n1 + 1, n2, cap, c2, g, g2, F1 ++ [f], F2, T1 ++ [s], T2, by omega, by go_num, rfl, rfl, r3, r4, r5, by omega, by omega, r1, r2, hp1.snoc hf hs, hp2, ?_, ?_, by simp [HL1.out], HL2.out, r6⟩
          · rw [filter_snoc _ hf, HF1.out, if_pos (by simpa using hm)]
          · rw [filter_snoc _ hf, HF2.out, if_neg (by simpa using hm)]; simp
        case measure => simp [intOf]; omega
      · go_wp2_with (at_builtin; refine wpList_append_lies _ rfl (.tmp 31) (.tmp 36) 40 rfl w.heap.size 55 i0 (.agg #[.int .i64 0, .int .i64 0, .int .u64 0, .slice none 0 0]) 4 48 Try.underlying40 hi hz0 hz1 hz2 rfl (by decide) _ n2 _ rfl (HO2.out.alloc _) ⟨wr.heap.size, 0, none⟩ 1 1 [.int .i64 f.num, .int .i64 f.wire, .int .u64 (f.n : Int), .slice s.1 f.b.length s.2] rfl rfl (cells4_new _ _ _ _ _ _) hw1 (by decide) (by unfold maxLen; omega) (by omega) (by simp; omega) (wr.heap.size + 1) (by simp) ?_)
        intro g cap w2 hown hgrow hat hltg
        obtain ⟨r1, r2, r3, r4, r5, r6⟩ := two_step (f := f) (s := s) hb hTF2 (Ne.symm hgg) hg1 HO2.out HO1.out hown hgrow hat rfl
        clear hown hgrow hat hltg
        go_wp2
        go_roundw
        case rel =>
          refine ⟨j + 1, n1, n2 + 1, c1, cap, g1, g, F1, F2 ++ [f], T1, T2 ++ [s], by omega, by go_num, rfl, rfl, Ne.symm r3, r5, r4, by omega, by omega, r2, r1, hp1, hp2.snoc hf hs, ?_, ?_, HL1.out, by simp [HL2.out], r6⟩
          · rw [filter_snoc _ hf, HF1.out, if_neg (by simpa using hm)]; simp
          · rw [filter_snoc _ hf, HF2.out, if_pos (by simpa using hm)]
        case measure => simp [intOf]; omega
    · obtain rfl : j = n := by omega
      have hk : l.take j = l := List.take_of_length_le (by have := HN.out; omega)
      have e1 := HF1.out
      have e2 := HF2.out
      rw [hk] at e1 e2
      have HE1 := Lib.hid e1
      have HE2 := Lib.hid e2
      obtain ⟨x1, x2⟩ := own_cap HO1.out
      obtain ⟨y1, y2⟩ := own_cap HO2.out
      have m1 : NewRow wr F1 (.slice (some ⟨g1, 0, none⟩) n1 c1) := ⟨_, n1, c1, T1, rfl, x1, x2, HL1.out, by rw [hp1.1]; exact HL1.out, Rd.of_own HO1.out, fun k f s hf hs => by
        have := hp1.rd (HR.out.below hb) k f s hf hs
        exact ⟨this.1.more hsz, this.2⟩⟩
      have m2 : NewRow wr F2 (.slice (some ⟨g2, 0, none⟩) n2 c2) := ⟨_, n2, c2, T2, rfl, y1, y2, HL2.out, by rw [hp2.1]; exact HL2.out, Rd.of_own HO2.out, fun k f s hf hs => by
        have := hp2.rd (HR.out.below hb) k f s hf hs
        exact ⟨this.1.more hsz, this.2⟩⟩
      have M1 := Lib.hid m1
      have M2 := Lib.hid m2
      clear e1 e2 hk m1 m2 hp1 hp2
      go_wp2
      go_ret2
      exact ⟨.slice (some ⟨g1, 0, none⟩) n1 c1, .slice (some ⟨g2, 0, none⟩) n2 c2, rfl, by rw [HE1.out]; exact M1.out, by rw [HE2.out]; exact M2.out, hb⟩
end Go.Proofs.Ytkagonijkalicaa
