/-
  The walks of the reference of layer 4: Top, Same.
-/
import Derived.Test.YtmcbifdfpaooaaaFoEq
import Derived.Test.YtmcbifdfpaooaaaSteady
namespace Go.Proofs.Ytmcbifdfpaooaaa
open Go.RowKit
open Fo (Spc specAll specs inv top)

theorem specs_get {w : World} {B n : Nat} {A : Option Addr} {c : Nat} {l : List Spc} (h : w.ownsRow B 33 5 (.slice A n c) n (rowc scells l)) (hl : l.length = n) : RdR scells 5 w w.heap.size A n l := ⟨hl, Rd.of_own h⟩

set_option maxHeartbeats 4000000 in
set_option maxRecDepth 100000 in
theorem rtop_any (k v : Int) (w : World) (k0 : -9223372036854775808 ≤ k) (k1 : k ≤ 9223372036854775807) (v0 : -9223372036854775808 ≤ v) (v1 : v ≤ 9223372036854775807) : Calls Try.prog 13 #[.int .i64 k, .int .i64 v] w fun e w' => e = .returned (.int .i64 (top k v)) ∧ Below w.heap.size w w' := by
  have hca := rspecs_any k v w k0 k1 v0 v1
  have hmem := fun s (hs : s ∈ specs k v) => Fo.specs_mem hs
  have htop : top k v = (specs k v).foldl (fun t s => max t s.num) 0 := rfl
  have hlen := Fo.specs_len k v
  obtain ⟨l, hl⟩ : ∃ l, specs k v = l := ⟨_, rfl⟩
  rw [hl] at hca htop hlen
  simp only [hl] at hmem
  rw [htop]
  have HCA := Lib.hid hca
  have HME := Lib.hid hmem
  clear hca hl htop hmem
  go_enter Try.func13, Try.ntmps13
  go_wp2_with fail
  refine HCA.out.mono ?_
  rintro e w1 ⟨A, n, c, rfl, hnc, hmax, hn, hown, hb1⟩
  have HR := Lib.hid (specs_get hown hn)
  have HN := Lib.hid hn
  clear hown hn HCA
  go_wp2
  go_loop [5, 7] (fun x i => ∃ (j : Nat) (t : Int), j ≤ n ∧ i = .int .i64 (j : Int) ∧ x = .int .i64 t ∧ (l.take j).foldl (fun t s => max t s.num) 0 = t ∧ 0 ≤ t ∧ t ≤ 10) (fun _ i => n - (intOf i).toNat)
  case atStart => exact ⟨0, 0, Nat.zero_le _, rfl, rfl, rfl, by omega, by omega⟩
  case round =>
    obtain ⟨j, t, hj, rfl, rfl, ht, ht0, ht1⟩ := hrel
    have HT := Lib.hid ht
    clear ht
    by_cases hlt : j < n
    · obtain ⟨ad, s, hA, hab, hs, c0, c1, c2, c3, c4⟩ := spec_at HR.out hlt
      subst hA
      have hsm := HME.out s (List.mem_of_getElem? hs)
      have hstep : (l.take (j + 1)).foldl (fun t s => max t s.num) 0 = max t s.num := by
        rw [List.take_add_one, hs, List.foldl_append, HT.out]; rfl
      have HS := Lib.hid hstep
      clear hstep hs
      go_wp2
      all_goals
        go_round
        case rel =>
          refine ⟨j + 1, max t s.num, by omega, by go_num, ?_, HS.out, by omega, by omega⟩
          first | rfl | (congr 1; omega)
        case measure => simp [intOf]; omega
    · obtain rfl : j = n := by omega
      have hfl := HT.out
      rw [List.take_of_length_le (by have := HN.out; omega)] at hfl
      have HFE := Lib.hid hfl
      clear hfl
      go_wp2
      go_ret
      exact ⟨by rw [HFE.out]; rfl, hb1⟩
end Go.Proofs.Ytmcbifdfpaooaaa
