/-
  The walks of the landed layer 2: may, numbers, its closure, take.
-/
import Derived.Test.YtpbhmhagailhfaaTgRef
import Derived.Test.YtpbhmhagailhfaaViPut
import Derived.Test.YtpbhmhagailhfaaViTake
namespace Go.Proofs.Ytpbhmhagailhfaa.Tg
open Go.RowKit
open Go.Proofs.Ytpbhmhagailhfaa.Vi (put take put_len put_byte take_put take_put0 take_back take_cut take_err put_inj taken put_any put_int take_any)

set_option maxRecDepth 100000 in
theorem may_tag (num wire : Int) (w : World) (n0 : -9223372036854775808 ≤ num) (n1 : num ≤ 9223372036854775807) (k0 : -9223372036854775808 ≤ wire) (k1 : wire ≤ 9223372036854775807) :
    Calls Try.prog 39 #[.int .i64 num, .int .i64 wire] w fun e w' => e = .returned (.bool (okTag num wire)) ∧ w = w' := by
  cases ho : okTag num wire with
  | false =>
    by_cases h1 : num < 1
    · go_enter Try.func39, Try.ntmps39
      go_wp2_with fail
      go_ret
      exact ⟨rfl, rfl⟩
    · by_cases h2 : 1000 < num
      · go_enter Try.func39, Try.ntmps39
        go_wp2_with fail
        go_ret
        exact ⟨rfl, rfl⟩
      · have h3 : ¬ (wire = 0 ∨ wire = 2) := fun h => by rw [okTag_iff.2 ⟨by omega, by omega, h⟩] at ho; cases ho
        have q1 : (wire == 0) = false := by rw [beq_eq_false_iff_ne]; omega
        have q2 : (wire == 2) = false := by rw [beq_eq_false_iff_ne]; omega
        clear h3
        go_enter Try.func39, Try.ntmps39
        go_wp2_with fail
        go_ret
        exact ⟨rfl, rfl⟩
  | true =>
    obtain ⟨h1, h2, h3⟩ := okTag_iff.1 ho
    clear ho
    rcases h3 with rfl | rfl
    · go_enter Try.func39, Try.ntmps39
      go_wp2_with fail
      go_ret
      exact ⟨rfl, rfl⟩
    · go_enter Try.func39, Try.ntmps39
      go_wp2_with fail
      go_ret
      exact ⟨rfl, rfl⟩

/-- The closure that goes along the bytes, and what it keeps: the bytes, and where it is. -/
def Along (w : World) (g : Nat) (A : Option Addr) (n c : Nat) (k : Nat) : Prop := Blk w g 23 #[.slice A n c] ∧ Blk w (g + 1) 3 #[.int .i64 (k : Int)]
def nextOf (g : Nat) : Value := .func (.func 41) #[] #[.pointer (some ⟨g, 0, none⟩), .pointer (some ⟨g + 1, 0, none⟩)]

set_option maxRecDepth 100000 in
theorem numbers_any (A : Option Addr) (n c : Nat) (w : World) :
    Calls Try.prog 35 #[.slice A n c] w fun e w' => e = .returned (nextOf w.heap.size) ∧ Below w.heap.size w w' ∧ w'.heap.size = w.heap.size + 2 ∧ Along w' w.heap.size A n c 0 := by
  have hmf : ∀ (fn : Fn) (first cap : Array Value) (w : World), (Instr.makeFunc fn first cap).run Try.prog w = .ok (.func fn first cap) w := fun _ _ _ _ => rfl
  go_enter Try.func35, Try.ntmps35
  go_wp2
  go_ret
  exact ⟨rfl, ((Below.refl _ _).alloc (Nat.le_refl _) _).alloc (by simp) _, by simp, (Blk.new _ _ _).alloc _, by simpa using Blk.new (w.alloc (.cells #[.slice A n c] 23)) #[.int .i64 0] 3⟩

/-- What a step tells: the number, where it ends, the error. -/
def told (bs : List Nat) (k : Nat) : Value :=
  if (take (bs.drop k)).2.2 = 0 then .tuple #[.int .u64 ((take (bs.drop k)).1 : Int), .int .i64 ((k + (take (bs.drop k)).2.1 : Nat) : Int), .int .i64 0]
  else .tuple #[.int .u64 0, .int .i64 0, .int .i64 ((take (bs.drop k)).2.2 : Int)]

set_option maxHeartbeats 1000000 in
set_option maxRecDepth 100000 in
theorem next_any (g : Nat) (A : Option Addr) (n c k : Nat) (bs : List Nat) (w : World) (hb : ∀ c ∈ bs, c < 256) (h : Rd w g 1 A n (bvs bs)) (hk : k ≤ n) (hnc : n ≤ c) (hmax : c ≤ 9223372036854775807) (hg : Along w g A n c k) :
    Calls Try.prog 41 #[.pointer (some ⟨g, 0, none⟩), .pointer (some ⟨g + 1, 0, none⟩)] w fun e w' => e = .returned (told bs k) ∧ Below g w w' ∧ w'.heap.size = w.heap.size ∧ ((take (bs.drop k)).2.2 = 0 → Along w' g A n c (k + (take (bs.drop k)).2.1)) := by
  obtain ⟨x, m, e, hx⟩ : ∃ x m e, take (bs.drop k) = (x, m, e) := ⟨_, _, _, rfl⟩
  have hlen : bs.length = n := by have := h.1; rw [bvs_len] at this; omega
  have hbd : ∀ c ∈ bs.drop k, c < 256 := fun c hc => hb c (List.mem_of_mem_drop hc)
  have hle := take_le hbd
  rw [hx] at hle
  obtain ⟨hm10, hml, hx64, he3⟩ : m ≤ 10 ∧ m ≤ (bs.drop k).length ∧ x < 18446744073709551616 ∧ e ≤ 3 := hle
  have hml : m ≤ n - k := by rw [List.length_drop] at hml; omega
  obtain ⟨hA, hK⟩ := hg
  have hlt := hK.lt
  have c0 := hA.cell 0
  have c1 := hK.cell 0
  have z1 := hK.frozen 0
  simp at c0 c1
  obtain ⟨i0, hi, hz0, hz1, hz2⟩ := info_parts byte_info
  have hsl := run_from (P := Try.prog) 23 5 i0 1 Try.underlying23 hi hz1 A n c k .i64 hk
  have hcut := h.bytes_from hk hnc
  have HB := Lib.hid hbd
  have HC := Lib.hid hcut
  have HA := Lib.hid hA
  have HK := Lib.hid hK
  have HX := Lib.hid hx
  have HT2 := Lib.hid (show taken (take (bs.drop k)) = .tuple #[.int .u64 (x : Int), .int .i64 (m : Int), .int .i64 (e : Int)] by rw [hx]; rfl)
  clear hx hcut hbd h hb hA hK hlen
  generalize cutAt A c 1 k = A2 at *
  by_cases he : e = 0
  · subst he
    go_enter Try.func41, Try.ntmps41
    go_wp2_with fail
    refine (take_any A2 (n - k) (c - k) g (bs.drop k) w HB.out HC.out (by omega)).mono ?_
    rintro e' w1 ⟨rfl, rfl⟩
    rw [HT2.out]
    go_wp2
    obtain ⟨w2, hw2⟩ : ∃ w2, w2 = w.setCell ⟨g + 1, 0, none⟩ (.int .i64 ((k : Int) + (m : Int))) := ⟨_, rfl⟩
    have hb2 : Below g w w2 := by rw [hw2]; exact (Below.refl _ _).setCell (by simp) _
    have hs2 : w2.heap.size = w.heap.size := by rw [hw2]; simp [World.setCell]
    have hA2 : Blk w2 g 23 #[.slice A n c] := by rw [hw2]; exact HA.out.far (by simp) _
    have hK2 : Blk w2 (g + 1) 3 #[.int .i64 ((k : Int) + (m : Int))] := by rw [hw2]; simpa using HK.out.put 0 (.int .i64 ((k : Int) + (m : Int)))
    rw [← hw2]
    clear hw2
    have d1 := hK2.cell 0
    simp at d1
    have HV := Lib.hid (show told bs k = .tuple #[.int .u64 (x : Int), .int .i64 ((k + m : Nat) : Int), .int .i64 0] by unfold told; rw [HX.out]; rfl)
    go_region
    all_goals (try go_wp2)
    all_goals go_ret3
    all_goals exact ⟨by rw [HV.out]; exact ret_tuple (by simp), hb2.drew, hs2, fun _ => by rw [HX.out]; exact ⟨hA2, by rw [show ((k + m : Nat) : Int) = (k : Int) + (m : Int) by simp]; exact hK2⟩⟩
  · have q1 : ((e : Int) != 0) = true := by rw [bne_iff_ne]; omega
    go_enter Try.func41, Try.ntmps41
    go_wp2_with fail
    refine (take_any A2 (n - k) (c - k) g (bs.drop k) w HB.out HC.out (by omega)).mono ?_
    rintro e' w1 ⟨rfl, rfl⟩
    rw [HT2.out]
    go_wp2
    go_ret3
    have HV := Lib.hid (show told bs k = .tuple #[.int .u64 0, .int .i64 0, .int .i64 (e : Int)] by unfold told; rw [HX.out]; exact if_neg he)
    exact ⟨by rw [HV.out]; rfl, Below.refl _ _, rfl, fun h0 => by rw [HX.out] at h0; exact absurd h0 he⟩

set_option maxHeartbeats 1000000 in
set_option maxRecDepth 100000 in
theorem take_cl (g : Nat) (A : Option Addr) (n c : Nat) (bs : List Nat) (w : World) (hb : ∀ c ∈ bs, c < 256) (h : Rd w g 1 A n (bvs bs)) (hnc : n ≤ c) (hmax : c ≤ 9223372036854775807) (hg : Along w g A n c 0) :
    Calls Try.prog 36 #[nextOf g] w fun e w' => e = .returned (tagged (ttake bs)) ∧ Below g w w' ∧ w'.heap.size = w.heap.size ∧ ((ttake bs).err = 0 → Along w' g A n c (ttake bs).size) := by
  obtain ⟨x, m, e, hx⟩ : ∃ x m e, take bs = (x, m, e) := ⟨_, _, _, rfl⟩
  have hle := take_le hb
  rw [hx] at hle
  obtain ⟨hm10, hml, hx64, he3⟩ : m ≤ 10 ∧ m ≤ bs.length ∧ x < 18446744073709551616 ∧ e ≤ 3 := hle
  have hx0 : take (bs.drop 0) = (x, m, e) := by simpa using hx
  have HX := Lib.hid hx
  by_cases he : e = 0
  · subst he
    have HT := Lib.hid (show told bs 0 = .tuple #[.int .u64 (x : Int), .int .i64 (m : Int), .int .i64 0] by unfold told; rw [hx0]; simp)
    rw [← show bs.drop 0 = bs from rfl] at hx
    have hgo := next_any g A n c 0 bs w hb h (by omega) hnc hmax hg
    rw [hx0] at hgo
    have HG := Lib.hid hgo
    clear hx hx0 hgo hg h hb
    go_enter Try.func36, Try.ntmps36
    unfold nextOf
    go_wp2_with fail
    refine HG.out.mono ?_
    rintro e' w1 ⟨rfl, hb1, hs1, hk⟩
    rw [HT.out]
    have hk := hk trivial
    rw [Nat.zero_add] at hk
    have HK := Lib.hid hk
    clear hk
    go_wp2_with fail
    rw [show (x : Int) / 8 = ((x / 8 : Nat) : Int) by omega, show (x : Int) % 8 = ((x % 8 : Nat) : Int) by omega]
    refine (may_tag ((x / 8 : Nat) : Int) ((x % 8 : Nat) : Int) w1 (by omega) (by omega) (by omega) (by omega)).mono ?_
    rintro e' w2 ⟨rfl, rfl⟩
    cases ho : okTag (x / 8 : Nat) (x % 8 : Nat) with
    | false =>
      have HV := Lib.hid (ttake_no HX.out ho)
      clear ho
      go_wp2
      refine bodyPost_ret (results4 rfl _ _ _) rfl ?_
      exact ⟨by rw [HV.out]; rfl, hb1, hs1, fun h => by rw [HV.out] at h; cases h⟩
    | true =>
      have HV := Lib.hid (ttake_ok HX.out ho)
      clear ho
      go_wp2
      refine bodyPost_ret (results4 rfl _ _ _) rfl ?_
      exact ⟨by rw [HV.out]; rfl, hb1, hs1, fun _ => by rw [HV.out]; exact HK.out⟩
  · have q1 : ((e : Int) != 0) = true := by rw [bne_iff_ne]; omega
    have HT := Lib.hid (show told bs 0 = .tuple #[.int .u64 0, .int .i64 0, .int .i64 (e : Int)] by unfold told; rw [hx0]; exact if_neg he)
    have hgo := next_any g A n c 0 bs w hb h (by omega) hnc hmax hg
    have HG := Lib.hid hgo
    have HV := Lib.hid (ttake_bad HX.out he)
    clear hx hx0 hgo hg h hb
    go_enter Try.func36, Try.ntmps36
    unfold nextOf
    go_wp2_with fail
    refine HG.out.mono ?_
    rintro e' w1 ⟨rfl, hb1, hs1, _⟩
    rw [HT.out]
    go_wp2
    refine bodyPost_ret (results4 rfl _ _ _) rfl ?_
    exact ⟨by rw [HV.out]; rfl, hb1, hs1, fun h => by rw [HV.out] at h; exact absurd h he⟩
end Go.Proofs.Ytpbhmhagailhfaa.Tg
