/-
  The walks of the landed state's generic helpers (and of the library's IndexFunc, ContainsFunc) at api.Snap.
-/
import Derived.Test.YtdkjdiamekfbdaaStMayP
import Derived.Test.YtdkjdiamekfbdaaStIn
import Derived.Test.YtdkjdiamekfbdaaSteady
namespace Go.Proofs.Ytdkjdiamekfbdaa
open Go.RowKit
open Rf (Snp)
open St (Ses Opn Sta place riseK riseK_step any_place all_any)

set_option maxRecDepth 100000 in
theorem key_sn (x : Snp) (s : Option Addr × Nat) (u : World) : Calls Try.prog 44 #[.agg #[.int .i64 x.id, .int .i64 x.set, .slice s.1 x.chunks.length s.2, .bool x.held, .string (strOf x.tag)]] u fun e u' => e = .returned (.int .i64 x.id) ∧ Below u.heap.size u u' := by
  go_enter Try.func44, Try.ntmps44
  go_wp2
  go_ret
  exact ⟨rfl, (Below.refl _ _).alloc (Nat.le_refl _) _⟩

set_option maxHeartbeats 1000000 in
set_option maxRecDepth 100000 in
theorem index_sn (A : Option Addr) (n c : Nat) (l : List Snp) (S : List (Option Addr × Nat)) (k : Nat) (caps : Array Value) (p : Snp → Bool) (w : World) (hn : n ≤ 9223372036854775807) (h : RdS w w.heap.size A n l S) (hen : ∀ (args : Array Value) (w : World), (callFunc k args).run Try.prog w = .ok (.enter k args) w)
    (hcl : ∀ (x : Snp) (s : Option Addr × Nat) (wr : World), x ∈ l → Below w.heap.size w wr → RdSn wr wr.heap.size x s → Calls Try.prog k (#[.agg #[.int .i64 x.id, .int .i64 x.set, .slice s.1 x.chunks.length s.2, .bool x.held, .string (strOf x.tag)]] ++ caps) wr fun e w' => e = .returned (.bool (p x)) ∧ Below wr.heap.size wr w') :
    Calls Try.prog 66 #[.slice A n c, .func (.func k) #[] caps] w fun e w' => e = .returned (.int .i64 (place p l)) ∧ Below w.heap.size w w' := by
  have HV := Lib.hid (show place p l = placeFrom p l 0 from (placeFrom_zero _ _).symm)
  have HR := Lib.hid h
  have HL := Lib.hid h.1
  have HC := Lib.hid hcl
  clear h hcl
  go_enter Try.func66, Try.ntmps66
  go_wp2
  go_loopw [8] (fun i wr => ∃ j : Nat, j ≤ n ∧ i = .int .i64 (j : Int) ∧ placeFrom p l 0 = placeFrom p l j ∧ Below w.heap.size w wr) (fun i _ => n - (intOf i).toNat)
  case atStart => exact ⟨0, Nat.zero_le _, rfl, rfl, Below.refl _ _⟩
  case round =>
    obtain ⟨j, hj, rfl, hp, hb⟩ := hrel
    have HP := Lib.hid hp
    have hsz := hb.size
    clear hp
    by_cases hlt : j < n
    · obtain ⟨ad, y, s, rfl, hab, hx, _, g0, g1, g2, g3, g4, hrd, hs1, hs2⟩ := rds_get (HR.out.below hb) hlt
      have hrs : RdSn wr wr.heap.size y s := ⟨hrd.more hsz, hs1, hs2⟩
      have HIT := Lib.hid (fun h => placeFrom_hit (p := p) hx h)
      have MISS := Lib.hid (fun h => placeFrom_miss (p := p) hx h)
      have HCC := Lib.hid (HC.out y s wr (List.mem_of_getElem? hx) hb hrs)
      clear hx
      obtain ⟨D, hD⟩ : ∃ D, p y = D := ⟨_, rfl⟩
      have HD := Lib.hid hD
      rw [hD] at HCC
      clear hD HC
      go_wp2_with fail
      refine HCC.out.mono ?_
      rintro _ w1 ⟨rfl, hb1⟩
      have hb2 := hb.trans (hb1.mono hsz)
      cases D with
      | true =>
        have HF := Lib.hid (HIT.out HD.out)
        go_wp2
        go_ret
        exact ⟨by rw [HV.out, HP.out, HF.out]; rfl, hb2⟩
      | false =>
        have HF := Lib.hid (MISS.out HD.out)
        go_wp2
        go_roundw
        case rel => exact ⟨j + 1, by omega, by go_num, by rw [HP.out, HF.out], hb2⟩
        case measure => simp [intOf]; omega
    · obtain rfl : j = n := by omega
      have HF := Lib.hid (placeFrom_end (p := p) (l := l) (j := j) (by rw [HL.out]; exact Nat.le_refl _))
      go_wp2
      go_ret
      exact ⟨by rw [HV.out, HP.out, HF.out]; rfl, hb⟩

set_option maxHeartbeats 1000000 in
set_option maxRecDepth 100000 in
theorem contains_sn (A : Option Addr) (n c : Nat) (l : List Snp) (S : List (Option Addr × Nat)) (k : Nat) (caps : Array Value) (p : Snp → Bool) (w : World) (hn : n ≤ 9223372036854775807) (h : RdS w w.heap.size A n l S) (hen : ∀ (args : Array Value) (w : World), (callFunc k args).run Try.prog w = .ok (.enter k args) w)
    (hcl : ∀ (x : Snp) (s : Option Addr × Nat) (wr : World), x ∈ l → Below w.heap.size w wr → RdSn wr wr.heap.size x s → Calls Try.prog k (#[.agg #[.int .i64 x.id, .int .i64 x.set, .slice s.1 x.chunks.length s.2, .bool x.held, .string (strOf x.tag)]] ++ caps) wr fun e w' => e = .returned (.bool (p x)) ∧ Below wr.heap.size wr w') :
    Calls Try.prog 73 #[.slice A n c, .func (.func k) #[] caps] w fun e w' => e = .returned (.bool (l.any p)) ∧ Below w.heap.size w w' := by
  have HI := Lib.hid (index_sn A n c l S k caps p w hn h hen hcl)
  obtain ⟨P, hP⟩ : ∃ P, place p l = P := ⟨_, rfl⟩
  obtain ⟨D, hD⟩ : ∃ D, l.any p = D := ⟨_, rfl⟩
  have hA : decide (0 ≤ P) = D := by rw [← hP, any_place, hD]
  rw [hP] at HI
  rw [hD]
  clear h hcl hP hD
  go_enter Try.func73, Try.ntmps73
  go_wp2_with fail
  refine HI.out.mono ?_
  rintro _ w1 ⟨rfl, hb1⟩
  go_wp2
  go_ret
  exact ⟨rfl, hb1⟩

set_option maxHeartbeats 1000000 in
set_option maxRecDepth 100000 in
theorem allc_sn (g : Nat) (x : Snp) (s : Option Addr × Nat) (k : Nat) (caps : Array Value) (b : Bool) (u : World) (hg : Blk u g 81 #[.func (.func k) #[] caps]) (hr : RdSn u u.heap.size x s) (hen : ∀ (args : Array Value) (w : World), (callFunc k args).run Try.prog w = .ok (.enter k args) w)
    (hcl : ∀ wr : World, Below u.heap.size u wr → RdSn wr wr.heap.size x s → Calls Try.prog k (#[.agg #[.int .i64 x.id, .int .i64 x.set, .slice s.1 x.chunks.length s.2, .bool x.held, .string (strOf x.tag)]] ++ caps) wr fun e w' => e = .returned (.bool b) ∧ Below wr.heap.size wr w') :
    Calls Try.prog 74 #[.agg #[.int .i64 x.id, .int .i64 x.set, .slice s.1 x.chunks.length s.2, .bool x.held, .string (strOf x.tag)], .pointer (some ⟨g, 0, none⟩)] u fun e u' => e = .returned (.bool (!b)) ∧ Below u.heap.size u u' := by
  obtain ⟨u0, hu0⟩ : ∃ u0 : World, u0 = u.alloc (.cells #[.int .i64 x.id, .int .i64 x.set, .slice s.1 x.chunks.length s.2, .bool x.held, .string (strOf x.tag)] 38) := ⟨_, rfl⟩
  have hb : Below u.heap.size u u0 := by rw [hu0]; exact (Below.refl _ _).alloc (Nat.le_refl _) _
  have hsz := hb.size
  have cg : u0.cell? ⟨g, 0, none⟩ = some (.func (.func k) #[] caps) := ((hg.below hb hg.lt).cell 0).trans rfl
  have HC := Lib.hid (hcl u0 hb ((hr.below hb).more hb.size))
  have hk0 : Blk u0 u.heap.size 38 #[.int .i64 x.id, .int .i64 x.set, .slice s.1 x.chunks.length s.2, .bool x.held, .string (strOf x.tag)] := by rw [hu0]; exact Blk.new _ _ _
  have y0 : u0.cell? ⟨u.heap.size, 0, none⟩ = some (.int .i64 x.id) := (hk0.cell 0).trans rfl
  have y1 : u0.cell? ⟨u.heap.size, 1, none⟩ = some (.int .i64 x.set) := (hk0.cell 1).trans rfl
  have y2 : u0.cell? ⟨u.heap.size, 2, none⟩ = some (.slice s.1 x.chunks.length s.2) := (hk0.cell 2).trans rfl
  have y3 : u0.cell? ⟨u.heap.size, 3, none⟩ = some (.bool x.held) := (hk0.cell 3).trans rfl
  have y4 : u0.cell? ⟨u.heap.size, 4, none⟩ = some (.string (strOf x.tag)) := (hk0.cell 4).trans rfl
  have HW := Lib.hid hu0
  clear hcl hk0 hu0 hg
  go_enter Try.func74, Try.ntmps74
  go_upto_region 1 with fail
  rw [show u.alloc (.cells #[.int .i64 x.id, .int .i64 x.set, .slice s.1 x.chunks.length s.2, .bool x.held, .string (strOf x.tag)] 38) = u0 from HW.out.symm]
  go_wp2_with fail
  refine HC.out.mono ?_
  rintro _ w1 ⟨rfl, hb1⟩
  have hb2 := hb.trans (hb1.mono hsz)
  go_wp2
  go_ret
  exact ⟨rfl, hb2⟩

set_option maxHeartbeats 1000000 in
set_option maxRecDepth 100000 in
theorem all_sn (A : Option Addr) (n c : Nat) (l : List Snp) (S : List (Option Addr × Nat)) (k : Nat) (caps : Array Value) (p : Snp → Bool) (w : World) (hn : n ≤ 9223372036854775807) (h : RdS w w.heap.size A n l S) (hen : ∀ (args : Array Value) (w : World), (callFunc k args).run Try.prog w = .ok (.enter k args) w)
    (hcl : ∀ (x : Snp) (s : Option Addr × Nat) (wr : World), x ∈ l → Below w.heap.size w wr → RdSn wr wr.heap.size x s → Calls Try.prog k (#[.agg #[.int .i64 x.id, .int .i64 x.set, .slice s.1 x.chunks.length s.2, .bool x.held, .string (strOf x.tag)]] ++ caps) wr fun e w' => e = .returned (.bool (p x)) ∧ Below wr.heap.size wr w') :
    Calls Try.prog 58 #[.slice A n c, .func (.func k) #[] caps] w fun e w' => e = .returned (.bool (l.all p)) ∧ Below w.heap.size w w' := by
  have hmf : ∀ (fn : Fn) (first cap : Array Value) (w : World), (Instr.makeFunc fn first cap).run Try.prog w = .ok (.func fn first cap) w := fun _ _ _ _ => rfl
  obtain ⟨w0, hw0⟩ : ∃ w0 : World, w0 = w.alloc (.cells #[.func (.func k) #[] caps] 81) := ⟨_, rfl⟩
  have hb : Below w.heap.size w w0 := by rw [hw0]; exact (Below.refl _ _).alloc (Nat.le_refl _) _
  have hk0 : Blk w0 w.heap.size 81 #[.func (.func k) #[] caps] := by rw [hw0]; exact Blk.new _ _ _
  have HC := Lib.hid (contains_sn A n c l S 74 #[.pointer (some ⟨w.heap.size, 0, none⟩)] (fun x => !p x) w0 hn ((h.below hb).more hb.size) (fun _ _ => rfl)
    (fun x s wr hx hbr hr => allc_sn w.heap.size x s k caps (p x) wr (hk0.below hbr hk0.lt) hr hen (fun w2 hb2 hr2 => hcl x s w2 hx (hb.trans ((hbr.trans (hb2.mono hbr.size)).mono hb.size)) hr2)))
  obtain ⟨D, hD⟩ : ∃ D, l.all p = D := ⟨_, rfl⟩
  have hA : (!(l.any fun x => !p x)) = D := by rw [all_any, hD]
  obtain ⟨P, hP⟩ : ∃ P, (l.any fun x => !p x) = P := ⟨_, rfl⟩
  rw [hP] at HC hA
  rw [hD]
  have HW := Lib.hid hw0
  clear h hcl hP hD hk0 hw0
  go_enter Try.func58, Try.ntmps58
  go_upto_region 1 with fail
  rw [show w.alloc (.cells #[.func (.func k) #[] caps] 81) = w0 from HW.out.symm]
  go_wp2_with fail
  refine HC.out.mono ?_
  rintro _ w1 ⟨rfl, hb1⟩
  have hb2 := hb.trans (hb1.mono hb.size)
  go_wp2
  go_ret
  exact ⟨by rw [← hA]; rfl, hb2⟩

set_option maxHeartbeats 1000000 in
set_option maxRecDepth 100000 in
theorem rise_sn (A : Option Addr) (n c : Nat) (l : List Snp) (S : List (Option Addr × Nat)) (most : Int) (w : World) (hn : n ≤ 9223372036854775807) (h : RdS w w.heap.size A n l S) :
    Calls Try.prog 57 #[.slice A n c, .func (.func 44) #[] #[], .int .i64 most] w fun e w' => e = .returned (.bool (riseK Snp.id most 0 l)) ∧ Below w.heap.size w w' := by
  have HR := Lib.hid h
  have HL := Lib.hid h.1
  clear h
  go_enter Try.func57, Try.ntmps57
  go_wp2
  go_loopw [7, 13] (fun v i wr => ∃ (j : Nat) (a : Int), j ≤ n ∧ v = .int .i64 a ∧ i = .int .i64 (j : Int) ∧ riseK Snp.id most 0 l = riseK Snp.id most a (l.drop j) ∧ Below w.heap.size w wr) (fun _ i _ => n - (intOf i).toNat)
  case atStart => exact ⟨0, 0, Nat.zero_le _, rfl, rfl, rfl, Below.refl _ _⟩
  case round =>
    obtain ⟨j, a, hj, rfl, rfl, hp, hb⟩ := hrel
    have HP := Lib.hid hp
    have hsz := hb.size
    clear hp
    by_cases hlt : j < n
    · obtain ⟨ad, y, s, rfl, hab, hx, _, g0, g1, g2, g3, g4, hrd, hs1, hs2⟩ := rds_get (HR.out.below hb) hlt
      have hrs : RdSn wr wr.heap.size y s := ⟨hrd.more hsz, hs1, hs2⟩
      have HST := Lib.hid (riseK_step (f := Snp.id) (most := most) hx a)
      obtain ⟨x, hxy⟩ : ∃ x, Snp.id y = x := ⟨_, rfl⟩
      have hxy' : y.id = x := hxy
      have HK := Lib.hid (show ∀ u : World, Calls Try.prog 44 #[.agg #[.int .i64 y.id, .int .i64 y.set, .slice s.1 y.chunks.length s.2, .bool y.held, .string (strOf y.tag)]] u fun e u' => e = .returned (.int .i64 x) ∧ Below u.heap.size u u' by intro u; rw [← hxy']; exact key_sn y s u)
      rw [hxy] at HST
      have HXY := Lib.hid hxy'
      clear hx hxy hxy'
      go_wp2_with fail
      refine (HK.out _).mono ?_
      rintro _ w1 ⟨rfl, hb1⟩
      have hb2 : Below w.heap.size w w1 := (hb.alloc hsz _).trans (hb1.mono (by simp; omega))
      by_cases h1 : a < x
      · by_cases h2 : x ≤ most
        · have HE := Lib.hid (show riseK Snp.id most 0 l = riseK Snp.id most x (l.drop (j + 1)) by rw [HP.out, HST.out, decide_eq_true h1, decide_eq_true h2]; rfl)
          go_wp2
          go_roundw
          case rel => exact ⟨j + 1, x, by omega, rfl, by go_num, HE.out, hb2⟩
          case measure => simp [intOf]; omega
        · have HE := Lib.hid (show riseK Snp.id most 0 l = false by rw [HP.out, HST.out, decide_eq_false h2]; simp)
          go_wp2
          go_ret
          exact ⟨by rw [HE.out]; rfl, hb2⟩
      · have HE := Lib.hid (show riseK Snp.id most 0 l = false by rw [HP.out, HST.out, decide_eq_false h1]; simp)
        go_wp2
        go_ret
        exact ⟨by rw [HE.out]; rfl, hb2⟩
    · obtain rfl : j = n := by omega
      have HE := Lib.hid (show riseK Snp.id most 0 l = true by rw [HP.out, List.drop_of_length_le (by rw [HL.out]; exact Nat.le_refl _)]; rfl)
      go_wp2
      go_ret
      exact ⟨by rw [HE.out]; rfl, hb⟩

set_option maxHeartbeats 1000000 in
set_option maxRecDepth 100000 in
theorem placec_sn (g h : Nat) (x : Snp) (s : Option Addr × Nat) (v : Int) (u : World) (hg : Blk u g 65 #[.func (.func 44) #[] #[]]) (hh : Blk u h 3 #[.int .i64 v]) :
    Calls Try.prog 67 #[.agg #[.int .i64 x.id, .int .i64 x.set, .slice s.1 x.chunks.length s.2, .bool x.held, .string (strOf x.tag)], .pointer (some ⟨g, 0, none⟩), .pointer (some ⟨h, 0, none⟩)] u fun e u' => e = .returned (.bool (x.id == v)) ∧ Below u.heap.size u u' := by
  obtain ⟨u0, hu0⟩ : ∃ u0 : World, u0 = u.alloc (.cells #[.int .i64 x.id, .int .i64 x.set, .slice s.1 x.chunks.length s.2, .bool x.held, .string (strOf x.tag)] 38) := ⟨_, rfl⟩
  have hb : Below u.heap.size u u0 := by rw [hu0]; exact (Below.refl _ _).alloc (Nat.le_refl _) _
  have hsz : u0.heap.size = u.heap.size + 1 := by rw [hu0]; simp
  have cg : u0.cell? ⟨g, 0, none⟩ = some (.func (.func 44) #[] #[]) := ((hg.below hb hg.lt).cell 0).trans rfl
  have ch : u0.cell? ⟨h, 0, none⟩ = some (.int .i64 v) := ((hh.below hb hh.lt).cell 0).trans rfl
  have HG := Lib.hid (show g < u0.heap.size by have := hg.lt; omega)
  have HH := Lib.hid (show h < u0.heap.size by have := hh.lt; omega)
  have HB := Lib.hid (show u.heap.size < u0.heap.size by omega)
  have hk0 : Blk u0 u.heap.size 38 #[.int .i64 x.id, .int .i64 x.set, .slice s.1 x.chunks.length s.2, .bool x.held, .string (strOf x.tag)] := by rw [hu0]; exact Blk.new _ _ _
  have y0 : u0.cell? ⟨u.heap.size, 0, none⟩ = some (.int .i64 x.id) := (hk0.cell 0).trans rfl
  have y1 : u0.cell? ⟨u.heap.size, 1, none⟩ = some (.int .i64 x.set) := (hk0.cell 1).trans rfl
  have y2 : u0.cell? ⟨u.heap.size, 2, none⟩ = some (.slice s.1 x.chunks.length s.2) := (hk0.cell 2).trans rfl
  have y3 : u0.cell? ⟨u.heap.size, 3, none⟩ = some (.bool x.held) := (hk0.cell 3).trans rfl
  have y4 : u0.cell? ⟨u.heap.size, 4, none⟩ = some (.string (strOf x.tag)) := (hk0.cell 4).trans rfl
  have HW := Lib.hid hu0
  obtain ⟨D, hD⟩ : ∃ D, (x.id == v) = D := ⟨_, rfl⟩
  rw [hD]
  clear hk0 hu0 hg hh hsz
  go_enter Try.func67, Try.ntmps67
  go_upto_region 1 with fail
  rw [show u.alloc (.cells #[.int .i64 x.id, .int .i64 x.set, .slice s.1 x.chunks.length s.2, .bool x.held, .string (strOf x.tag)] 38) = u0 from HW.out.symm]
  refine wp_region_grew (n := 10) (Say [(5, isv (.func (.func 44) #[] #[])), (6, isv (.agg #[.int .i64 x.id, .int .i64 x.set, .slice s.1 x.chunks.length s.2, .bool x.held, .string (strOf x.tag)])), (7, isv (.int .i64 x.id)), (8, isv (.int .i64 v)), (9, isv (.bool D)), (4, isv (.bool D))]) (by kernel_rfl) (by kernel_rfl) rfl ⟨?_, ?_, ?_, ?_, ?_, ?_, trivial⟩ ?_
  · refine owed_val _ rfl rfl (fun _ => rfl) fun fr w hC hK => ?_
    have k1 : slot fr 1 = .pointer (some ⟨g, 0, none⟩) := known_out hK 1 (by kernel_rfl)
    clear hK
    unfold slot at k1
    have x0 := (Below.cell hC (p := ⟨g, 0, none⟩) HG.out).trans cg
    go_simp
  · refine owed_val _ rfl rfl (fun _ => rfl) fun fr w hC hK => ?_
    have k3 : slot fr 3 = .pointer (some ⟨u.heap.size, 0, none⟩) := known_out hK 3 (by kernel_rfl)
    clear hK
    unfold slot at k3
    have x0 := (Below.cell hC (p := ⟨u.heap.size, 0, none⟩) HB.out).trans y0
    have x1 := (Below.cell hC (p := ⟨u.heap.size, 1, none⟩) HB.out).trans y1
    have x2 := (Below.cell hC (p := ⟨u.heap.size, 2, none⟩) HB.out).trans y2
    have x3 := (Below.cell hC (p := ⟨u.heap.size, 3, none⟩) HB.out).trans y3
    have x4 := (Below.cell hC (p := ⟨u.heap.size, 4, none⟩) HB.out).trans y4
    go_simp
  · refine owed_plain rfl rfl fun fr w hC hK K hk => ?_
    have k5 : slot fr 5 = .func (.func 44) #[] #[] := known_in hK 5 (by kernel_rfl)
    have k6 : slot fr 6 = .agg #[.int .i64 x.id, .int .i64 x.set, .slice s.1 x.chunks.length s.2, .bool x.held, .string (strOf x.tag)] := known_in hK 6 (by kernel_rfl)
    clear hK
    unfold slot at k5 k6
    go_simp
    refine (key_sn x s w).mono ?_
    rintro e w' ⟨rfl, hb1⟩
    exact hk _ _ hb1 rfl
  · refine owed_val _ rfl rfl (fun _ => rfl) fun fr w hC hK => ?_
    have k2 : slot fr 2 = .pointer (some ⟨h, 0, none⟩) := known_out hK 2 (by kernel_rfl)
    clear hK
    unfold slot at k2
    have x0 := (Below.cell hC (p := ⟨h, 0, none⟩) HH.out).trans ch
    go_simp
  · refine owed_val _ rfl rfl (fun _ => rfl) fun fr w hC hK => ?_
    have k7 : slot fr 7 = .int .i64 x.id := known_in hK 7 (by kernel_rfl)
    have k8 : slot fr 8 = .int .i64 v := known_in hK 8 (by kernel_rfl)
    clear hK
    unfold slot at k7 k8
    go_simp
  · exact owed_move rfl rfl (.inr rfl) fun fr w _ hK => known_in hK 9 (by kernel_rfl)
  intro vs w' hg hgood
  have h4 : vs 4 = .bool D := hgood.2.2.2.2.2.1
  clear hgood
  simp only [putsOf]
  rw [h4]
  go_simp
  go_wp2
  go_ret
  exact ⟨rfl, hb.trans (hg.mono hb.size)⟩

set_option maxHeartbeats 1000000 in
set_option maxRecDepth 100000 in
theorem place_sn (A : Option Addr) (n c : Nat) (l : List Snp) (S : List (Option Addr × Nat)) (v : Int) (w : World) (hn : n ≤ 9223372036854775807) (h : RdS w w.heap.size A n l S) :
    Calls Try.prog 43 #[.slice A n c, .func (.func 44) #[] #[], .int .i64 v] w fun e w' => e = .returned (.int .i64 (place (fun x => x.id == v) l)) ∧ Below w.heap.size w w' := by
  have hmf : ∀ (fn : Fn) (first cap : Array Value) (w : World), (Instr.makeFunc fn first cap).run Try.prog w = .ok (.func fn first cap) w := fun _ _ _ _ => rfl
  obtain ⟨w0, hw0⟩ : ∃ w0 : World, w0 = (w.alloc (.cells #[.func (.func 44) #[] #[]] 65)).alloc (.cells #[.int .i64 v] 3) := ⟨_, rfl⟩
  have hb : Below w.heap.size w w0 := by rw [hw0]; exact ((Below.refl _ _).alloc (Nat.le_refl _) _).alloc (by simp) _
  have hk0 : Blk w0 w.heap.size 65 #[.func (.func 44) #[] #[]] := by rw [hw0]; exact (Blk.new _ _ _).alloc _
  have hk1 : Blk w0 (w.heap.size + 1) 3 #[.int .i64 v] := by rw [hw0]; simpa using Blk.new (w.alloc (.cells #[.func (.func 44) #[] #[]] 65)) #[.int .i64 v] 3
  have HC := Lib.hid (index_sn A n c l S 67 #[.pointer (some ⟨w.heap.size, 0, none⟩), .pointer (some ⟨w.heap.size + 1, 0, none⟩)] (fun x => x.id == v) w0 hn ((h.below hb).more hb.size) (fun _ _ => rfl)
    (fun x s wr _ hbr _ => placec_sn w.heap.size (w.heap.size + 1) x s v wr (hk0.below hbr hk0.lt) (hk1.below hbr hk1.lt)))
  have HW := Lib.hid hw0
  clear h hk0 hk1 hw0
  go_enter Try.func43, Try.ntmps43
  go_upto_region 1 with fail
  rw [show (w.alloc (.cells #[.func (.func 44) #[] #[]] 65)).alloc (.cells #[.int .i64 v] 3) = w0 from HW.out.symm]
  go_wp2_with fail
  refine HC.out.mono ?_
  rintro _ w1 ⟨rfl, hb1⟩
  have hb2 := hb.trans (hb1.mono hb.size)
  go_wp2
  go_ret
  exact ⟨rfl, hb2⟩
end Go.Proofs.Ytdkjdiamekfbdaa
