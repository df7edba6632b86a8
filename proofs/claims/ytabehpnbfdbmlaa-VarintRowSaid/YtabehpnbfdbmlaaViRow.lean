/-
  The walk of the law that numbers one behind the other are taken one behind the other.
-/
import Derived.Test.YtabehpnbfdbmlaaViShown
import Derived.Test.YtabehpnbfdbmlaaViBack
import Derived.Deep.DeepCutAuto
namespace Go.Proofs.Ytabehpnbfdbmlaa.Vi
open Go.RowKit

def cat (l : List Nat) : List Nat := l.flatMap put
theorem cat_snoc (l : List Nat) (j x : Nat) (h : l[j]? = some x) : cat (l.take (j + 1)) = cat (l.take j) ++ put x := by
  unfold cat
  rw [List.take_add_one, h]; simp
theorem cat_len (l : List Nat) : (cat l).length ≤ 10 * l.length := by
  induction l with
  | nil => simp [cat]
  | cons x l ih =>
    have := put_len x
    unfold cat at ih ⊢
    rw [List.flatMap_cons, List.length_append, List.length_cons]; omega
theorem cat_byte (l : List Nat) (h : ∀ x ∈ l, x < 18446744073709551616) : ∀ c ∈ cat l, c < 256 := by
  intro c hc
  obtain ⟨x, hx, hcx⟩ := List.mem_flatMap.1 hc
  exact put_byte x (h x hx) c hcx

theorem own_below {w w' : World} {base : Nat} {e : TypeId} {size n : Nat} {v : Value} {xs : List Value} (h : w.ownsRow base e size v n xs) (hb : Below w.heap.size w w') : w'.ownsRow base e size v n xs := by
  refine ⟨h.1, ?_⟩
  rcases h.2 with hn | ⟨g, cap, cur, hv, hbg, hg, rest⟩
  · exact .inl hn
  · exact .inr ⟨g, cap, cur, hv, hbg, by rw [hb.block g (Array.getElem?_eq_some_iff.1 hg).1]; exact hg, rest⟩

set_option maxHeartbeats 4000000 in
set_option maxRecDepth 100000 in
theorem row_any (a b c : Nat) (w : World) (ha : a < 18446744073709551616) (hb : b < 18446744073709551616) (hc : c < 18446744073709551616) :
    Calls Try.prog 7 #[.int .u64 (a : Int), .int .u64 (b : Int), .int .u64 (c : Int)] w fun e w' => e = .returned (.bool true) ∧ Below w.heap.size w w' := by
  obtain ⟨i0, hi, hz0, hz1, hz2⟩ := info_parts byte_info
  have hall : ∀ x ∈ [a, b, c], x < 18446744073709551616 := by
    intro x hx
    simp only [List.mem_cons, List.not_mem_nil, or_false] at hx
    rcases hx with rfl | rfl | rfl <;> assumption
  have HALL := Lib.hid hall
  clear hall
  go_enter Try.func7, Try.ntmps7
  go_upto_region 4 with (go_at_call 8; refine (shown_any _).mono ?_; rintro e w1 ⟨rfl, hb1⟩)
  obtain ⟨w2, hw2⟩ : ∃ w2 : World, w2 = w1.alloc (.cells #[.int .u64 (a : Int), .int .u64 (b : Int), .int .u64 (c : Int)] 22) := ⟨_, rfl⟩
  have hb2 : Below w.heap.size w w2 := by rw [hw2]; exact hb1.alloc hb1.size _
  have hsz2 : w2.heap.size = w1.heap.size + 1 := by rw [hw2]; simp
  have hl0 : ∀ (j x : Nat), [a, b, c][j]? = some x → w2.cell? ⟨w1.heap.size, j, none⟩ = some (.int .u64 (x : Int)) := by
    intro j x hx
    rw [hw2, cell_of_row (w1.alloc _) w1.heap.size j _ 22 (0, 0) (heap_alloc_new w1 _)]
    match j, hx with
    | 0, hx => simp at hx; subst hx; rfl
    | 1, hx => simp at hx; subst hx; rfl
    | 2, hx => simp at hx; subst hx; rfl
    | j + 3, hx => simp at hx
  rw [← hw2]
  have HL0 := Lib.hid hl0
  clear hl0
  have hsz1 := hb1.size
  have HW2 := Lib.hid hw2
  have HSZ2 := Lib.hid hsz2
  have hlt12 : w1.heap.size < w2.heap.size := by omega
  clear hw2 hsz2
  go_wp2
  go_loopw [9, 10] (fun v i wr => ∃ j m : Nat, j ≤ 3 ∧ i = .int .i64 (j : Int) ∧ m ≤ 10 * j ∧ wr.ownsRow w2.heap.size 5 1 v m (bvs (cat ([a, b, c].take j))) ∧ Below w2.heap.size w2 wr) (fun _ i _ => 3 - (intOf i).toNat)
  case atStart =>
    refine ⟨0, 0, by omega, rfl, by omega, ?_, (Below.refl _ _).alloc (Nat.le_refl _) _⟩
    have h1 := World.ownsRow_made (e := 5) (size := 1) w2 #[] 0 (Nat.le_refl _) (by unfold maxLen; omega) rfl
    rw [HSZ2.out] at h1 ⊢
    exact h1
  case round =>
    obtain ⟨j, m, hj, rfl, hm, hown, hbw⟩ := hrel
    have HO := Lib.hid hown
    clear hown
    have hszr := hbw.size
    by_cases hlt : j < 3
    · obtain ⟨x, hx⟩ : ∃ x, [a, b, c][j]? = some x := ⟨[a, b, c][j], List.getElem?_eq_getElem hlt⟩
      have hx64 : x < 18446744073709551616 := HALL.out x (List.mem_of_getElem? hx)
      have hcell : wr.cell? ⟨w1.heap.size, j, none⟩ = some (.int .u64 (x : Int)) := by
        rw [hbw.cell (p := ⟨w1.heap.size, j, none⟩) (by show w1.heap.size < w2.heap.size; omega)]
        exact HL0.out j x hx
      have HX := Lib.hid hx
      have hp := put_len x
      have hbm : 10 * j ≤ 30 := by omega
      clear hx
      go_wp2_with fail
      refine (put_any x _ hx64).mono ?_
      rintro e' w5 ⟨v5, rfl, hown5, hb5⟩
      obtain ⟨A5, c5, rfl, hc5, hc52⟩ := slice_of_own hown5
      have HR5 := Lib.hid (Rd.of_own hown5)
      have HO5 := Lib.hid (own_below HO.out hb5)
      have hsz5 := hb5.size
      clear hown5
      go_wp2_with (at_builtin; refine wpList_append_rd _ rfl _ _ 23 rfl w2.heap.size 5 i0 (.int .u8 0) 1 1 Try.underlying23 hi hz0 hz1 hz2 rfl (by decide) _ m _ rfl HO5.out w5.heap.size A5 (put x).length c5 (bvs (put x)) rfl HR5.out (bvs_one _) (by unfold maxLen; omega) (by omega) (by omega) ?_)
      intro v6 w6 hown6 hg6
      have hb6 : Below w2.heap.size w2 w6 := (hbw.trans (hb5.mono hszr)).grown hg6 (by omega) (fun k hk => (HO5.out.lt k hk).1)
      clear hg6
      go_wp2
      go_roundw
      case rel =>
        refine ⟨j + 1, m + (put x).length, by omega, by go_num, by omega, ?_, hb6⟩
        rw [cat_snoc _ _ _ HX.out, bvs_app]; exact hown6
      case measure => simp [intOf]; omega
    · obtain rfl : j = 3 := by omega
      rw [show ((3 : Nat) : Int) = 3 from rfl]
      obtain ⟨A3, c3, rfl, hc3, hc32⟩ := slice_of_own HO.out
      have hr3 := Rd.of_own HO.out
      have e3 : [a, b, c].take 3 = [a, b, c] := rfl
      rw [e3] at hr3
      have HR3 := Lib.hid hr3
      have hl1 : ∀ (j x : Nat), [a, b, c][j]? = some x → wr.cell? ⟨w1.heap.size, j, none⟩ = some (.int .u64 (x : Int)) := by
        intro j x hx
        have hj3 := (List.getElem?_eq_some_iff.1 hx).1
        rw [hbw.cell (p := ⟨w1.heap.size, j, none⟩) (by show w1.heap.size < w2.heap.size; omega)]
        exact HL0.out j x hx
      have HL1 := Lib.hid hl1
      clear hr3 hl1 e3 HO
      go_wp2
      go_loop [9, 11] (fun v i => ∃ (j n' c' : Nat) (A' : Option Addr), j ≤ 3 ∧ i = .int .i64 (j : Int) ∧ v = .slice A' n' c' ∧ n' ≤ c' ∧ c' ≤ 9223372036854775807 ∧ Rd wr wr.heap.size 1 A' n' (bvs (cat ([a, b, c].drop j)))) (fun _ i => 3 - (intOf i).toNat)
      case atStart => exact ⟨0, m, c3, A3, by omega, rfl, rfl, hc3, hc32, HR3.out⟩
      case round =>
        obtain ⟨j, n', c', A', hj2, rfl, rfl, hnc', hcm', hr'⟩ := hrel
        have HR' := Lib.hid hr'
        clear hr'
        by_cases hlt2 : j < 3
        · obtain ⟨x, hx⟩ : ∃ x, [a, b, c][j]? = some x := ⟨[a, b, c][j], List.getElem?_eq_getElem hlt2⟩
          have hx64 : x < 18446744073709551616 := HALL.out x (List.mem_of_getElem? hx)
          have hcell := HL1.out j x hx
          have hdrop : [a, b, c].drop j = x :: [a, b, c].drop (j + 1) := by
            rw [List.drop_eq_getElem_cons hlt2]
            congr 1
            have := List.getElem?_eq_getElem (l := [a, b, c]) hlt2
            rw [hx] at this
            injection this with h
            exact h.symm
          have hcat : cat ([a, b, c].drop j) = put x ++ cat ([a, b, c].drop (j + 1)) := by rw [hdrop]; rfl
          have hrr := HR'.out
          rw [hcat] at hrr
          have hbb : ∀ d ∈ put x ++ cat ([a, b, c].drop (j + 1)), d < 256 := by
            rw [← hcat]
            exact cat_byte _ (fun y hy => HALL.out y (List.mem_of_mem_drop hy))
          have hp := put_len x
          obtain ⟨mx, hmx⟩ : ∃ mx, mx = (put x).length := ⟨_, rfl⟩
          rw [← hmx] at hp
          have hn' : mx ≤ n' := by
            have := hrr.1
            rw [bvs_len, List.length_append, ← hmx] at this; omega
          obtain ⟨ad, u, hA', _, _, _⟩ := hrr.get (show 0 < n' by omega)
          subst hA'
          have ht : taken (take (put x ++ cat ([a, b, c].drop (j + 1)))) = .tuple #[.int .u64 (x : Int), .int .i64 (mx : Int), .int .i64 0] := by rw [take_put x _ hx64, ← hmx]; rfl
          have HT := Lib.hid ht
          have HRR := Lib.hid hrr
          have HBB := Lib.hid hbb
          have HMX := Lib.hid hmx
          clear ht hrr hbb hmx hcat hdrop hx HR'
          have q1 : ((x : Int) != (x : Int)) = false := by simp
          go_wp2_with fail
          refine (take_any (some ad) n' c' _ _ _ HBB.out HRR.out (by omega)).mono ?_
          rintro e' w7 ⟨rfl, rfl⟩
          rw [HT.out]
          have hcut := HRR.out.cut (cap := c') hn' hnc'
          rw [Nat.mul_one, bvs_app, List.drop_left' (by rw [bvs_len]; exact HMX.out.symm)] at hcut
          have HC := Lib.hid hcut
          clear hcut
          by_cases hcs : c' = mx
          · subst hcs
            go_wp2
            go_round
            case rel =>
              have h1 := HC.out
              rw [if_pos trivial] at h1
              have e0 : n' - c' = 0 := by omega
              rw [e0] at h1
              exact ⟨j + 1, 0, 0, some ad, by omega, by go_num, rfl, by omega, by omega, h1⟩
            case measure => simp [intOf]; omega
          · go_wp2
            go_round
            case rel =>
              have h1 := HC.out
              rw [if_neg hcs] at h1
              exact ⟨j + 1, n' - mx, c' - mx, some (ad.add mx), by omega, by go_num, rfl, by omega, by omega, h1⟩
            case measure => simp [intOf]; omega
        · obtain rfl : j = 3 := by omega
          have hn0 : n' = 0 := by
            have := HR'.out.1
            simpa [bvs, cat] using this.symm
          subst hn0
          obtain ⟨D, hD⟩ : ∃ D : Bool, D = decide (a = b) := ⟨_, rfl⟩
          have hd1 : decide (put a = put b) = D := by
            rw [hD]
            by_cases h : a = b
            · simp [h]
            · have : put a ≠ put b := fun he => h (put_inj a b ha hb he)
              simp [h, this]
          have hd2 : ((a : Int) == (b : Int)) = D := by
            rw [hD]
            by_cases h : a = b
            · simp [h]
            · have : (a : Int) ≠ (b : Int) := by omega
              simp [h, this]
          have HD1 := Lib.hid hd1
          have HD2 := Lib.hid hd2
          clear hD hd1 hd2 HR'
          have hbw2 : Below w.heap.size w wr := hb2.trans (hbw.mono (by omega))
          go_wp2
          refine wp_region_grew (n := 84) (Say [(65, isv (.bool true)), (66, isv (.bool true)), (67, isv (.slice A' 0 c')), (68, isv (.int .i64 0)), (69, isv (.bool true)), (70, isv (.bool true)), (71, isv (.bool true)), (72, isv (.int .u64 (a : Int))), (73, istxt (put a)), (74, isv (.string (strOf (put a)))), (75, isv (.int .u64 (b : Int))), (76, istxt (put b)), (77, isv (.string (strOf (put b)))), (78, isv (.bool D)), (79, isv (.int .u64 (a : Int))), (80, isv (.int .u64 (b : Int))), (81, isv (.bool D)), (82, isv (.bool true)), (83, isv (.bool true)), (6, isv (.bool true))]) (by kernel_rfl) (by kernel_rfl) rfl ⟨?_, ?_, ?_, ?_, ?_, ?_, ?_, ?_, ?_, ?_, ?_, ?_, ?_, ?_, ?_, ?_, ?_, ?_, ?_, ?_, trivial⟩ ?_
          · exact owed_move rfl rfl (.inl rfl) fun fr w _ hK => known_out hK 7 (by kernel_rfl)
          · exact owed_move rfl rfl (.inl rfl) fun fr w _ hK => known_in hK 65 (by kernel_rfl)
          · exact owed_movew rfl rfl rfl (by kernel_rfl) (fun _ _ h => h) (.inl rfl) fun fr w _ hK => known_out hK 9 (by kernel_rfl)
          · refine owed_wval _ rfl rfl rfl (by kernel_rfl) (fun _ _ h => h) (fun _ => rfl) fun fr w hC hK => ?_
            have k67 : slot fr 67 = .slice A' 0 c' := known_in hK 67 (by kernel_rfl)
            clear hK
            unfold slot at k67
            go_simp
          · refine owed_wval _ rfl rfl rfl (by kernel_rfl) (fun _ _ h => h) (fun _ => rfl) fun fr w hC hK => ?_
            have k68 : slot fr 68 = .int .i64 0 := known_in hK 68 (by kernel_rfl)
            clear hK
            unfold slot at k68
            go_simp
          · refine owed_val _ rfl rfl (fun _ => rfl) fun fr w hC hK => ?_
            have k66 : slot fr 66 = .bool true := known_in hK 66 (by kernel_rfl)
            have k69 : slot fr 69 = .bool true := known_in hK 69 (by kernel_rfl)
            clear hK
            unfold slot at k66 k69
            go_simp
          · exact owed_move rfl rfl (.inl rfl) fun fr w _ hK => known_in hK 70 (by kernel_rfl)
          · exact owed_movew rfl rfl rfl (by kernel_rfl) (fun _ _ h => h) (.inl rfl) fun fr w _ hK => known_out hK 0 (by kernel_rfl)
          · refine owed_wanted rfl rfl rfl (by kernel_rfl) (fun _ _ h => h) fun fr w hC hK K hk => ?_
            have k72 : slot fr 72 = .int .u64 (a : Int) := known_in hK 72 (by kernel_rfl)
            clear hK
            unfold slot at k72
            go_simp
            refine (put_any a w ha).mono ?_
            rintro e w' ⟨v, rfl, hown, hb⟩
            exact hk _ _ hb (Txt.of_new hown)
          · refine owed_wval _ rfl rfl rfl (by kernel_rfl) (fun _ _ h => h) (fun _ => rfl) fun fr w hC hK => ?_
            obtain ⟨A73, n73, c73, k73, r73⟩ : Txt (put a) (slot fr 73) w := known_in hK 73 (by kernel_rfl)
            clear hK
            unfold slot at k73
            have s := run_str (P := Try.prog) w 23 9 5 Try.underlying23 Try.underlying5 Try.underlying9 r73 c73
            go_simp
          · exact owed_movew rfl rfl rfl (by kernel_rfl) (fun _ _ h => h) (.inl rfl) fun fr w _ hK => known_out hK 1 (by kernel_rfl)
          · refine owed_wanted rfl rfl rfl (by kernel_rfl) (fun _ _ h => h) fun fr w hC hK K hk => ?_
            have k75 : slot fr 75 = .int .u64 (b : Int) := known_in hK 75 (by kernel_rfl)
            clear hK
            unfold slot at k75
            go_simp
            refine (put_any b w hb).mono ?_
            rintro e w' ⟨v, rfl, hown, hb⟩
            exact hk _ _ hb (Txt.of_new hown)
          · refine owed_wval _ rfl rfl rfl (by kernel_rfl) (fun _ _ h => h) (fun _ => rfl) fun fr w hC hK => ?_
            obtain ⟨A76, n76, c76, k76, r76⟩ : Txt (put b) (slot fr 76) w := known_in hK 76 (by kernel_rfl)
            clear hK
            unfold slot at k76
            have s := run_str (P := Try.prog) w 23 9 5 Try.underlying23 Try.underlying5 Try.underlying9 r76 c76
            go_simp
          · refine owed_wval _ rfl rfl rfl (by kernel_rfl) (fun _ _ h => h) (fun _ => rfl) fun fr w hC hK => ?_
            have k74 : slot fr 74 = .string (strOf (put a)) := known_in hK 74 (by kernel_rfl)
            have k77 : slot fr 77 = .string (strOf (put b)) := known_in hK 77 (by kernel_rfl)
            clear hK
            unfold slot at k74 k77
            have f1 := str_beq (put_byte a ha) (put_byte b hb)
            have f2 := HD1.out
            go_simp
          · exact owed_movew rfl rfl rfl (by kernel_rfl) (fun _ _ h => h) (.inl rfl) fun fr w _ hK => known_out hK 0 (by kernel_rfl)
          · exact owed_movew rfl rfl rfl (by kernel_rfl) (fun _ _ h => h) (.inl rfl) fun fr w _ hK => known_out hK 1 (by kernel_rfl)
          · refine owed_wval _ rfl rfl rfl (by kernel_rfl) (fun _ _ h => h) (fun _ => rfl) fun fr w hC hK => ?_
            have k79 : slot fr 79 = .int .u64 (a : Int) := known_in hK 79 (by kernel_rfl)
            have k80 : slot fr 80 = .int .u64 (b : Int) := known_in hK 80 (by kernel_rfl)
            clear hK
            unfold slot at k79 k80
            have f1 := HD2.out
            go_simp
          · refine owed_wval _ rfl rfl rfl (by kernel_rfl) (fun _ _ h => h) (fun _ => rfl) fun fr w hC hK => ?_
            have k78 : slot fr 78 = .bool D := known_in hK 78 (by kernel_rfl)
            have k81 : slot fr 81 = .bool D := known_in hK 81 (by kernel_rfl)
            clear hK
            unfold slot at k78 k81
            go_simp
          · refine owed_val _ rfl rfl (fun _ => rfl) fun fr w hC hK => ?_
            have k71 : slot fr 71 = .bool true := known_in hK 71 (by kernel_rfl)
            have k82 : slot fr 82 = .bool true := known_in hK 82 (by kernel_rfl)
            clear hK
            unfold slot at k71 k82
            go_simp
          · exact owed_move rfl rfl (.inr rfl) fun fr w _ hK => known_in hK 83 (by kernel_rfl)
          intro vs w' hg hgood
          have h6 : vs 6 = .bool true := hgood.2.2.2.2.2.2.2.2.2.2.2.2.2.2.2.2.2.2.2.1
          clear hgood
          simp only [putsOf]
          go_simp
          go_wp2
          go_ret
          exact ⟨rfl, hbw2.trans (hg.mono hbw2.size)⟩
end Go.Proofs.Ytabehpnbfdbmlaa.Vi
