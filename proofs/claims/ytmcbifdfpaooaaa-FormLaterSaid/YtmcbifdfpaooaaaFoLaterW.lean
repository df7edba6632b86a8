/-
  The walk of the law FormLater.
-/
import Derived.Test.YtmcbifdfpaooaaaFoAllW
namespace Go.Proofs.Ytmcbifdfpaooaaa
open Go.RowKit
open Fo (Spc specAll specs inv top check okSpec okField cnt)
open Tl (Fel may)

theorem fo_some : ∀ k : Nat, k < 7 → ∀ v : Nat, v < 3 → specs (1 + (k : Int)) (1 + (v : Int)) ≠ [] := by decide +kernel
theorem fo_ne {k v : Int} (hk : 1 ≤ k ∧ k ≤ 7) (hv : 1 ≤ v ∧ v ≤ 3) : specs k v ≠ [] := by
  have := fo_some (k - 1).toNat (by omega) (v - 1).toNat (by omega)
  rw [show (1 : Int) + ((k - 1).toNat : Int) = k by omega, show (1 : Int) + ((v - 1).toNat : Int) = v by omega] at this
  exact this
theorem check_iff {k v : Int} (hk : 1 ≤ k ∧ k ≤ 7) (hv : 1 ≤ v ∧ v ≤ 3) (l : List Fel) : check k v l = if may l ≠ 0 then may l else if (specs k v).all (okSpec · l) then 0 else 6 := by
  unfold check
  rw [if_neg (fo_ne hk hv)]
theorem check_less {k u v : Int} (hk : 1 ≤ k ∧ k ≤ 7) (hu : 1 ≤ u) (huv : u ≤ v) (hv : v ≤ 3) {l : List Fel} (h : check k v l = 0) : check k u l = 0 := by
  rw [check_iff hk ⟨by omega, hv⟩] at h
  rw [check_iff hk ⟨hu, by omega⟩]
  by_cases hm : may l = 0
  · rw [hm] at h ⊢
    simp only [ne_eq, not_true, if_false] at h ⊢
    split at h
    · rename_i ha
      rw [List.all_eq_true] at ha
      rw [if_pos]
      rw [List.all_eq_true]
      intro s hs
      refine ha s ?_
      unfold specs at hs ⊢
      rw [List.mem_filter] at hs ⊢
      refine ⟨hs.1, ?_⟩
      have h2 := hs.2
      unfold inv at h2 ⊢
      simp only [Bool.and_eq_true, decide_eq_true_eq] at h2 ⊢
      omega
    · cases h
  · rw [if_pos hm] at h
    exact absurd h hm
def f1000 : Fel := ⟨1000, 2, 0, []⟩
theorem okSpec_more {s : Spc} {l : List Fel} (h : s.num ≤ 10) : okSpec s (l ++ [f1000]) = okSpec s l := by
  have h1 : okField s f1000 = true := by
    unfold okField
    rw [decide_eq_true (show f1000.num ≠ s.num by show (1000 : Int) ≠ s.num; omega), Bool.true_or]
  have h2 : cnt s (l ++ [f1000]) = cnt s l := by
    unfold cnt
    rw [List.filter_append, List.length_append]
    have : ¬ f1000.num = s.num := by show ¬ (1000 : Int) = s.num; omega
    simp [List.filter_cons, this]
  unfold okSpec
  rw [List.all_append, h2]
  simp [h1]
theorem check_more {k v : Int} (hk : 1 ≤ k ∧ k ≤ 7) (hv : 1 ≤ v ∧ v ≤ 3) {l : List Fel} (h : may l = 0) (h' : may (l ++ [f1000]) = 0) : check k v (l ++ [f1000]) = check k v l := by
  rw [check_iff hk hv, check_iff hk hv, h, h']
  simp only [ne_eq, not_true, if_false]
  have : (specs k v).all (okSpec · (l ++ [f1000])) = (specs k v).all (okSpec · l) := by
    rw [Bool.eq_iff_iff, List.all_eq_true, List.all_eq_true]
    constructor
    · intro ha s hs
      have h1 : okSpec s (l ++ [f1000]) = true := ha s hs
      rw [okSpec_more (Fo.specs_mem hs).2.1] at h1
      exact h1
    · intro ha s hs
      have h1 : okSpec s l = true := ha s hs
      show okSpec s (l ++ [f1000]) = true
      rw [okSpec_more (Fo.specs_mem hs).2.1]
      exact h1
  rw [this]

set_option maxHeartbeats 4000000 in
set_option maxRecDepth 100000 in
theorem flater_any (kd vs : Int) (A : Option Addr) (n c : Nat) (l : List Fel) (S : List (Option Addr × Nat)) (w : World) (k0 : 0 ≤ kd) (k1 : kd ≤ 255) (v0 : 0 ≤ vs) (v1 : vs ≤ 255)
    (h : RdF w w.heap.size A n l S) (hnc : n ≤ c) (hmax : c ≤ 9223372036854775807) (hw : ∀ f ∈ l, Fin4 f) :
    Calls Try.prog 5 #[.int .u8 kd, .int .u8 vs, .slice A n c] w fun e w' => e = .returned (.bool true) ∧ Below w.heap.size w w' := by
  obtain ⟨i0, hi, hz0, hz1, hz2⟩ := info_parts field_info
  obtain ⟨k, hk⟩ : ∃ k : Int, 1 + kd % 7 = k := ⟨_, rfl⟩
  obtain ⟨v, hv⟩ : ∃ v : Int, 1 + vs % 3 = v := ⟨_, rfl⟩
  have hkb : 1 ≤ k ∧ k ≤ 7 := by omega
  have hvb : 1 ≤ v ∧ v ≤ 3 := by omega
  have HK := Lib.hid hk
  have HV := Lib.hid hv
  have HR := Lib.hid h
  have hok := few4_ok hw
  obtain ⟨lf, hlf⟩ : ∃ lf, few4 l = lf := ⟨_, rfl⟩
  obtain ⟨m, hm⟩ : ∃ m, lf.length = m := ⟨_, rfl⟩
  have hm60 : m ≤ 60 := by rw [← hm, ← hlf, few4_len]; omega
  rw [hlf] at hok
  have hfew := fun w' (h' : RdF w' w'.heap.size A n l S) => few4_row A n c l S w' h' hnc hmax m (by rw [hlf]; exact hm)
  rw [hlf] at hfew
  have HFEW := Lib.hid hfew
  have HOK := Lib.hid hok
  obtain ⟨er, her⟩ : ∃ er, may lf = er := ⟨_, rfl⟩
  have herr := Tl.may_err lf
  rw [her] at herr
  obtain ⟨ck, hck⟩ : ∃ ck, check k v lf = ck := ⟨_, rfl⟩
  have hci := check_iff hkb hvb lf
  rw [hck, her] at hci
  have hcl : ∀ u, 1 ≤ u → u ≤ v → ck = 0 → check k u lf = 0 := fun u h1 h2 h3 => check_less hkb h1 h2 hvb.2 (by rw [hck]; exact h3)
  have hcm : er = 0 → may (lf ++ [f1000]) = 0 → check k v (lf ++ [f1000]) = ck := fun h1 h2 => by rw [check_more hkb hvb (by rw [her]; exact h1) h2, hck]
  have hc5 : ck = er ∧ er ≠ 0 ∨ er = 0 ∧ (ck = 0 ∨ ck = 6) := by
    rw [hci]
    by_cases h0 : er = 0
    · right
      refine ⟨h0, ?_⟩
      rw [if_neg (by omega)]
      split
      · left; rfl
      · right; rfl
    · left
      exact ⟨if_pos h0, h0⟩
  have hck6 : ck ≤ 6 := by omega
  have HER := Lib.hid her
  have HCK := Lib.hid hck
  have HCL := Lib.hid hcl
  have HCM := Lib.hid hcm
  have HC5 := Lib.hid hc5
  clear hk hv h hlf hm hok hw hfew her hck hci hcl hcm hc5
  go_enter Try.func5, Try.ntmps5
  go_wp2_with fail
  refine (fshown_any w).mono ?_
  rintro e w1 ⟨rfl, hb1⟩
  have hs1 := hb1.size
  go_wp2_with fail
  rw [HK.out, HV.out]
  refine (HFEW.out w1 ((HR.out.below hb1).more hs1)).mono ?_
  rintro e w2 ⟨A2, c2, rfl, hc2, hm2, hr2, hb2⟩
  have hbw := hb1.trans (hb2.mono hs1)
  have HR2 := Lib.hid hr2
  clear hr2 hb2 hb1 hs1
  go_wp2_with fail
  refine (check_rec k v A2 m c2 lf (S.take 60) w2 (by omega) (by omega) (by omega) (by omega) HR2.out hc2 hm2 (by omega) HOK.out).mono ?_
  rintro e w3 ⟨rfl, hb3⟩
  rw [HCK.out]
  replace hbw := hbw.trans (hb3.mono hbw.size)
  replace HR2 := Lib.hid ((HR2.out.below hb3).more hb3.size)
  have hs3 := hbw.size
  clear hb3
  go_wp2
  go_loopw [11] (fun i wr => ∃ u : Int, 1 ≤ u ∧ u ≤ v + 1 ∧ i = .int .i64 u ∧ Below w3.heap.size w3 wr) (fun i _ => (v + 1 - intOf i).toNat)
  case atStart => exact ⟨1, by omega, by omega, rfl, Below.refl _ _⟩
  case round =>
    obtain ⟨u, hu1, hu2, rfl, hb⟩ := hrel
    have hsz := hb.size
    by_cases hlt : u ≤ v
    · by_cases hz : ck = 0
      · have hcu := HCL.out u hu1 hlt hz
        have HCU := Lib.hid hcu
        have q : ((ck : Int) == 0) = true := by rw [hz]; rfl
        clear hcu hz
        go_wp2_with fail
        refine (check_rec k u A2 m c2 lf (S.take 60) wr (by omega) (by omega) (by omega) (by omega) ((HR2.out.below hb).more hsz) hc2 hm2 (by omega) HOK.out).mono ?_
        rintro e w4 ⟨rfl, hb4⟩
        rw [HCU.out]
        go_wp2
        go_roundw
        case rel => exact ⟨u + 1, by omega, by omega, by go_num, hb.trans (hb4.mono hsz)⟩
        case measure => simp [intOf]; omega
      · have q : ((ck : Int) == 0) = false := by rw [beq_eq_false_iff_ne]; omega
        go_wp2
        go_roundw
        case rel => exact ⟨u + 1, by omega, by omega, by go_num, hb⟩
        case measure => simp [intOf]; omega
    · have hbw4 := hbw.trans (hb.mono hs3)
      have HR4 := Lib.hid ((HR2.out.below hb).more hsz)
      have hs4 := hbw4.size
      clear HR2 HCL
      go_wp2_with fail
      refine (rmay_any A2 m c2 lf (S.take 60) wr HR4.out hc2 hm2 (by omega) HOK.out).mono ?_
      rintro e w5 ⟨rfl, hb5⟩
      rw [HER.out]
      have hbw5 := hbw4.trans (hb5.mono hs4)
      replace HR4 := Lib.hid ((HR4.out.below hb5).more hb5.size)
      have hs5 := hbw5.size
      clear hb5
      rcases HC5.out with ⟨rfl, hne⟩ | ⟨rfl, h06⟩
      · have q : ((ck : Int) != 0) = true := by rw [bne_iff_ne]; omega
        go_wp2
        go_ret
        exact ⟨rfl, hbw5⟩
      · have hrow := HR4.out.2.2.1
        have hone1 : ∀ u ∈ rcells lf (S.take 60), u.oneCell' = true := rcells_one4 lf (S.take 60)
        have HROW := Lib.hid hrow
        have HONE := Lib.hid hone1
        have hokm : ∀ f ∈ lf ++ [f1000], Fok f := fun f hf => by
          rcases List.mem_append.1 hf with hf | hf
          · exact HOK.out f hf
          · simp at hf
            rw [hf]
            exact ⟨⟨by decide, by simp [f1000]⟩, by simp [f1000]⟩
        have HOKM := Lib.hid hokm
        obtain ⟨em, hem⟩ : ∃ em, may (lf ++ [f1000]) = em := ⟨_, rfl⟩
        have hem5 : em ≤ 5 := by have := Tl.may_err (lf ++ [f1000]); omega
        have HEM := Lib.hid hem
        clear hrow hone1 hokm hem
        go_wp2_with (at_builtin; refine wpList_append_rd _ rfl (.tmp 53) (.tmp 54) 22 rfl w5.heap.size 39 i0 (.agg #[.int .i64 0, .int .i64 0, .int .u64 0, .slice none 0 0]) 4 48 Try.underlying22 hi hz0 hz1 hz2 rfl (by decide) _ 0 [] rfl (World.ownsRow_made (e := 39) w5 #[] 0 (Nat.le_refl _) (by unfold maxLen; omega) rfl) w5.heap.size A2 m c2 (rcells lf (S.take 60)) rfl (HROW.out.alloc (Nat.le_refl _) _) HONE.out (by unfold maxLen; omega) (by omega) (by simp) ?_)
        intro v6 w6 hown6 hg6
        have hb6 : Below w5.heap.size w5 w6 := ((Below.refl _ _).alloc (Nat.le_refl _) _).grown hg6 (by simp) (fun k hk => by simp [Value.ownBlock] at hk; omega)
        have hs6 := hb6.size
        have hown6' : w6.ownsRow w5.heap.size 39 4 v6 m (rcells lf (S.take 60)) := by simpa using hown6
        have HO6 := Lib.hid hown6'
        clear hown6 hg6 hown6'
        go_wp2_with (at_builtin; refine wpList_append_own _ rfl (.tmp 55) (.tmp 57) 22 rfl w5.heap.size 39 i0 (.agg #[.int .i64 0, .int .i64 0, .int .u64 0, .slice none 0 0]) 4 48 Try.underlying22 hi hz0 hz1 hz2 rfl (by decide) _ m _ rfl (HO6.out.alloc _) ⟨w6.heap.size, 0, none⟩ 1 1 [.int .i64 1000, .int .i64 2, .int .u64 0, .slice none 0 0] rfl rfl (cells4_new _ _ _ _ _ _) (few_one _ _ _ _ _ _) (by unfold maxLen; omega) (by omega) (by simp; omega) ?_)
        intro v7 w7 hown7 hg7 _
        have hb7 : Below w5.heap.size w5 w7 := (hb6.alloc hs6 _).grown hg7 (by simp; omega) (fun k hk => (HO6.out.lt k hk).1)
        have hcat : rcells lf (S.take 60) ++ [.int .i64 1000, .int .i64 2, .int .u64 0, .slice none 0 0] = rcells (lf ++ [f1000]) (S.take 60 ++ [(none, 0)]) := by
          rw [rcells_app _ _ _ _ (by rw [HR4.out.2.1, HR4.out.1]), rcells_one]; rfl
        rw [hcat] at hown7
        obtain ⟨A7, c7, rfl, hc7, hm7, hr7⟩ := RdF.of_own hown7 (by simp [HR4.out.1]) (by simp only [List.length_append, List.length_singleton]; rw [HR4.out.2.1]) hb7.size (fun k f s hf hs => by
          by_cases hk : k < m
          · rw [List.getElem?_append_left (by rw [HR4.out.1]; exact hk)] at hf
            rw [List.getElem?_append_left (by rw [HR4.out.2.1]; exact hk)] at hs
            have := HR4.out.2.2.2 k f s hf hs
            exact ⟨this.1.below hb7, this.2⟩
          · rw [List.getElem?_append_right (by rw [HR4.out.1]; omega), HR4.out.1] at hf
            rw [List.getElem?_append_right (by rw [HR4.out.2.1]; omega), HR4.out.2.1] at hs
            have hk0 : k - m = 0 := by
              have := (List.getElem?_eq_some_iff.1 hf).1
              simp at this
              omega
            rw [hk0] at hf hs
            simp at hf hs
            subst hf hs
            exact ⟨Rd.nil _ _ _ _, by simp [f1000], by simp⟩)
        have HR7 := Lib.hid hr7
        have hbw7 := hbw5.trans (hb7.mono hs5)
        have hs7 := hbw7.size
        clear hown7 hg7 hcat hr7 hb7 hb6 hs6 HO6 HROW HONE HR4
        go_wp2_with fail
        refine (rmay_any A7 _ c7 (lf ++ [f1000]) _ w7 HR7.out hc7 hm7 (by omega) HOKM.out).mono ?_
        rintro e w8 ⟨rfl, hb8⟩
        rw [HEM.out]
        have hbw8 := hbw7.trans (hb8.mono hs7)
        replace HR7 := Lib.hid ((HR7.out.below hb8).more hb8.size)
        have hs8 := hbw8.size
        clear hb8
        by_cases h0 : em = 0
        · have hcm := HCM.out (by trivial) (by rw [HEM.out, h0])
          have HC := Lib.hid hcm
          subst h0
          clear hcm
          go_wp2_with fail
          refine (check_rec k v A7 _ c7 (lf ++ [f1000]) _ w8 (by omega) (by omega) (by omega) (by omega) HR7.out hc7 hm7 (by omega) HOKM.out).mono ?_
          rintro e w9 ⟨rfl, hb9⟩
          rw [HC.out]
          have hbw9 := hbw8.trans (hb9.mono hs8)
          have q : ((ck : Int) != (ck : Int)) = false := by simp
          rcases h06 with rfl | rfl
          · go_wp2
            go_ret
            exact ⟨rfl, hbw9⟩
          · go_wp2
            go_ret
            exact ⟨rfl, hbw9⟩
        · have q : ((em : Int) == 0) = false := by rw [beq_eq_false_iff_ne]; omega
          rcases h06 with rfl | rfl
          · go_wp2
            go_ret
            exact ⟨rfl, hbw8⟩
          · go_wp2
            go_ret
            exact ⟨rfl, hbw8⟩
end Go.Proofs.Ytmcbifdfpaooaaa
