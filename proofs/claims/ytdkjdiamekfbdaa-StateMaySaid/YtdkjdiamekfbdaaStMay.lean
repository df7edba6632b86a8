/-
  The walk of the reference of layer 7: May.
-/
import Derived.Test.YtdkjdiamekfbdaaStSnap
import Derived.Test.YtdkjdiamekfbdaaSteady
namespace Go.Proofs.Ytdkjdiamekfbdaa
open Go.RowKit
open Rf (Snp)
open St (Ses Opn Sta snapOk sesOk opnOk rises sesGo opnGo snpGo headOk okS mayS)
open Cm (inR row)

def prevC {α : Type} (f : α → Int) (l : List α) (j : Nat) : Option Int := if j = 0 then none else (l[j - 1]?).map f
theorem prevC_succ {α : Type} {f : α → Int} {l : List α} {j : Nat} {x : α} (h : l[j]? = some x) : prevC f l (j + 1) = some (f x) := by
  unfold prevC
  rw [if_neg (by omega), Nat.add_sub_cancel, h]; rfl
theorem sesGo_step {l : List Ses} {j : Nat} {x : Ses} (h : l[j]? = some x) (p : Option Int) : sesGo p (l.drop j) = ((sesOk x && rises p x.client) && sesGo (some x.client) (l.drop (j + 1))) := by
  have hlt := (List.getElem?_eq_some_iff.1 h).1
  rw [List.drop_eq_getElem_cons hlt, show l[j] = x by rw [List.getElem?_eq_getElem hlt] at h; exact Option.some.inj h, sesGo]
theorem opnGo_step {l : List Opn} {j : Nat} {x : Opn} (h : l[j]? = some x) (p : Option Int) : opnGo p (l.drop j) = ((opnOk x && rises p x.set) && opnGo (some x.set) (l.drop (j + 1))) := by
  have hlt := (List.getElem?_eq_some_iff.1 h).1
  rw [List.drop_eq_getElem_cons hlt, show l[j] = x by rw [List.getElem?_eq_getElem hlt] at h; exact Option.some.inj h, opnGo]
theorem snpGo_step {l : List Snp} {j : Nat} {x : Snp} (h : l[j]? = some x) (m v : Int) (p : Option Int) : snpGo m v p (l.drop j) = ((snapOk x m v && rises p x.id) && snpGo m v (some x.id) (l.drop (j + 1))) := by
  have hlt := (List.getElem?_eq_some_iff.1 h).1
  rw [List.drop_eq_getElem_cons hlt, show l[j] = x by rw [List.getElem?_eq_getElem hlt] at h; exact Option.some.inj h, snpGo]

set_option maxHeartbeats 8000000 in
set_option maxRecDepth 100000 in
theorem may7_any (s : Sta) (p : Pls) (v : Int) (u : World) (h : RdT u u.heap.size s p) (ht : Tok s) (hvv : I64 v) : Calls Try.prog 15 #[stagg s p, .int .i64 v] u fun e u' => e = .returned (.int .i64 (mayS s v : Nat)) ∧ Below u.heap.size u u' := by
  obtain ⟨w0, hw0, hk0, hb0, hs0⟩ := box_st u s p 26
  have hc := stblk_cells hk0
  have hr := (h.below hb0).more (Nat.le_of_lt hs0)
  have HR1 := Lib.hid hr.sess
  have HR2 := Lib.hid hr.opens
  have HR3 := Lib.hid hr.snaps
  have HL1 := Lib.hid hr.sess.1
  have HL2 := Lib.hid hr.opens.1
  have hl3 := hr.snaps.1
  obtain ⟨q1, q1'⟩ := h.k1
  obtain ⟨q2, q2'⟩ := h.k2
  obtain ⟨q3, q3'⟩ := h.k3
  have HW := Lib.hid hw0
  have HT := Lib.hid ht
  have HM := Lib.hid (show mayS s v = if !inR v 1 3 then 1 else if (headOk s v && (sesGo none s.sess && (opnGo none s.opens && snpGo (IntKind.i64.wrap (s.next - 1)) v none s.snaps))) then 0 else 6 from rfl)
  have hH : headOk s v = (inR s.version 1 3 && (inR s.next 1 1048576 && (inR s.keep 0 8 && (inR s.quota 0 64 && ((decide (s.quota = 0) || decide (3 ≤ v)) && decide (s.snaps.length ≤ 16)))))) := rfl
  obtain ⟨a1, n1, c1, a2, n2, c2, a3, n3, c3, S⟩ := p
  simp only [] at hc HR1 HR2 HR3 HL1 HL2 hl3 q1 q1' q2 q2' q3 q3'
  obtain ⟨k0, k1, k2, k3, k4, k5, k6⟩ := hc
  obtain ⟨M, hM⟩ : ∃ M, mayS s v = M := ⟨_, rfl⟩
  obtain ⟨B0, hB0⟩ : ∃ B, inR v 1 3 = B := ⟨_, rfl⟩
  obtain ⟨B1, hB1⟩ : ∃ B, inR s.version 1 3 = B := ⟨_, rfl⟩
  obtain ⟨B2, hB2⟩ : ∃ B, inR s.next 1 1048576 = B := ⟨_, rfl⟩
  obtain ⟨B3, hB3⟩ : ∃ B, inR s.keep 0 8 = B := ⟨_, rfl⟩
  obtain ⟨B4, hB4⟩ : ∃ B, inR s.quota 0 64 = B := ⟨_, rfl⟩
  obtain ⟨HH, hHH⟩ : ∃ B, headOk s v = B := ⟨_, rfl⟩
  rw [hM, hB0, hHH] at HM
  rw [hHH, hB1, hB2, hB3, hB4] at hH
  have H0 := Lib.hid hB0
  have H1 := Lib.hid hB1
  have H2 := Lib.hid hB2
  have H3 := Lib.hid hB3
  have H4 := Lib.hid hB4
  have HHV := Lib.hid hH
  rw [hM]
  clear h ht hw0 hk0 hr hH hM hB0 hB1 hB2 hB3 hB4 hHH
  unfold stagg stblk
  go_enter Try.func15, Try.ntmps15
  go_upto_region 1 with fail
  rw [show (u.alloc (.cells #[.int .i64 s.version, .int .i64 s.next, .int .i64 s.keep, .int .i64 s.quota, .slice a1 n1 c1, .slice a2 n2 c2, .slice a3 n3 c3] 26)) = w0 from HW.out.symm]
  go_wp2_with fail
  refine (in7_e H0.out _).mono ?_
  rintro _ _ ⟨rfl, rfl⟩
  cases B0 with
  | false =>
    obtain rfl : M = 1 := by rw [HM.out]; rfl
    go_wp2
    go_ret
    exact ⟨rfl, hb0⟩
  | true =>
    have hm : M = if (HH && (sesGo none s.sess && (opnGo none s.opens && snpGo (IntKind.i64.wrap (s.next - 1)) v none s.snaps))) then 0 else 6 := HM.out
    have HMM := Lib.hid hm
    clear hm
    go_upto_region 3 with fail
    go_cut [5] (fun b wx => b = .bool HH ∧ wx = w0)
    case first =>
      go_wp2_with fail
      refine (in7_e H1.out _).mono ?_
      rintro _ _ ⟨rfl, rfl⟩
      cases B1 with
      | false =>
        obtain rfl : HH = false := by rw [HHV.out]; simp [*]
        go_wp2
        go_meet
        case rel => exact ⟨rfl, rfl⟩
      | true =>
        go_wp2_with fail
        refine (in7_e H2.out _).mono ?_
        rintro _ _ ⟨rfl, rfl⟩
        cases B2 with
        | false =>
          obtain rfl : HH = false := by rw [HHV.out]; simp [*]
          go_wp2
          go_meet
          case rel => exact ⟨rfl, rfl⟩
        | true =>
          go_wp2_with fail
          refine (in7_e H3.out _).mono ?_
          rintro _ _ ⟨rfl, rfl⟩
          cases B3 with
          | false =>
            obtain rfl : HH = false := by rw [HHV.out]; simp [*]
            go_wp2
            go_meet
            case rel => exact ⟨rfl, rfl⟩
          | true =>
            go_wp2_with fail
            refine (in7_e H4.out _).mono ?_
            rintro _ _ ⟨rfl, rfl⟩
            cases B4 with
            | false =>
              obtain rfl : HH = false := by rw [HHV.out]; simp [*]
              go_wp2
              go_meet
              case rel => exact ⟨rfl, rfl⟩
            | true =>
              by_cases h5 : s.quota = 0
              · have h5' : (s.quota == 0) = true := by rw [h5]; rfl
                by_cases h7 : s.snaps.length ≤ 16
                · have h7' : decide ((n3 : Int) ≤ 16) = true := decide_eq_true (by omega)
                  obtain rfl : HH = true := by rw [HHV.out]; simp [*]; try omega
                  clear h5
                  go_wp2
                  go_meet
                  case rel => exact ⟨rfl, rfl⟩
                · have h7' : decide ((n3 : Int) ≤ 16) = false := decide_eq_false (by omega)
                  obtain rfl : HH = false := by rw [HHV.out]; simp [*]; try omega
                  clear h5
                  go_wp2
                  go_meet
                  case rel => exact ⟨rfl, rfl⟩
              · have h5' : (s.quota == 0) = false := by rw [beq_eq_false_iff_ne]; exact h5
                by_cases h6 : 3 ≤ v
                · by_cases h7 : s.snaps.length ≤ 16
                  · have h7' : decide ((n3 : Int) ≤ 16) = true := decide_eq_true (by omega)
                    obtain rfl : HH = true := by rw [HHV.out]; simp [*]; try omega
                    clear h5
                    go_wp2
                    go_meet
                    case rel => exact ⟨rfl, rfl⟩
                  · have h7' : decide ((n3 : Int) ≤ 16) = false := decide_eq_false (by omega)
                    obtain rfl : HH = false := by rw [HHV.out]; simp [*]; try omega
                    clear h5
                    go_wp2
                    go_meet
                    case rel => exact ⟨rfl, rfl⟩
                · have h6' : decide (3 ≤ v) = false := decide_eq_false h6
                  obtain rfl : HH = false := by rw [HHV.out]; simp [*]; try omega
                  clear h5
                  go_wp2
                  go_meet
                  case rel => exact ⟨rfl, rfl⟩
    case rest =>
      obtain ⟨rfl, hwc⟩ := hcut
      have hwc := hwc.symm
      subst hwc
      obtain ⟨F1, hF1⟩ : ∃ F, (HH && sesGo none s.sess) = F := ⟨_, rfl⟩
      have HF1 := Lib.hid hF1
      clear hF1
      go_wp2
      go_loopw [5, 6] (fun ob i wr => ∃ (j : Nat) (b : Bool), j ≤ n1 ∧ i = .int .i64 (j : Int) ∧ ob = .bool b ∧ F1 = (b && sesGo (prevC Ses.client s.sess j) (s.sess.drop j)) ∧ Below w0.heap.size w0 wr) (fun _ i _ => n1 - (intOf i).toNat)
      case atStart => exact ⟨0, HH, Nat.zero_le _, rfl, rfl, HF1.out.symm, Below.refl _ _⟩
      case round =>
        obtain ⟨j, b, hj, rfl, rfl, hfb, hb⟩ := hrel
        have HFB := Lib.hid hfb
        clear hfb
        have hsz := hb.size
        have y4 := (hb.cell (p := ⟨u.heap.size, 4, none⟩) hs0).trans k4
        by_cases hlt : j < n1
        · obtain ⟨ad, x, rfl, hab, hx, g0, g1, g2, g3⟩ := rse_get (HR1.out.below hb) hlt
          have HST := Lib.hid (sesGo_step hx (prevC Ses.client s.sess j))
          have HPC := Lib.hid (prevC_succ (f := Ses.client) hx)
          obtain ⟨w5, hw5⟩ : ∃ w5 : World, w5 = wr.alloc (.cells #[.int .i64 x.client, .int .i64 x.seq, .int .i64 x.code, .int .i64 x.n] 42) := ⟨_, rfl⟩
          obtain ⟨gs, hgs⟩ : ∃ gs, gs = wr.heap.size := ⟨_, rfl⟩
          have hk5 : Blk w5 gs 42 #[.int .i64 x.client, .int .i64 x.seq, .int .i64 x.code, .int .i64 x.n] := by rw [hw5, hgs]; exact Blk.new _ _ _
          have hb5 : Below w0.heap.size w0 w5 := by rw [hw5]; exact hb.alloc hsz _
          have x0 := hk5.cell 0
          have x1 := hk5.cell 1
          have x2 := hk5.cell 2
          have x3 := hk5.cell 3
          simp at x0 x1 x2 x3
          have z4 := (hb5.cell (p := ⟨u.heap.size, 4, none⟩) hs0).trans k4
          have HW5 := Lib.hid hw5
          have HGS := Lib.hid hgs
          obtain ⟨S1, hS1⟩ : ∃ B, inR x.client 1 8 = B := ⟨_, rfl⟩
          obtain ⟨S2, hS2⟩ : ∃ B, inR x.seq 0 1048576 = B := ⟨_, rfl⟩
          obtain ⟨S3, hS3⟩ : ∃ B, inR x.code 0 99 = B := ⟨_, rfl⟩
          obtain ⟨S4, hS4⟩ : ∃ B, inR x.n 0 1048576 = B := ⟨_, rfl⟩
          obtain ⟨SO, hSO⟩ : ∃ B, (b && sesOk x) = B := ⟨_, rfl⟩
          have hgv : SO = (b && (S1 && (S2 && (S3 && S4)))) := by rw [← hSO, ← hS1, ← hS2, ← hS3, ← hS4]; rfl
          have GV := Lib.hid hgv
          have GSO := Lib.hid hSO
          have G1 := Lib.hid hS1
          have G2 := Lib.hid hS2
          have G3 := Lib.hid hS3
          have G4 := Lib.hid hS4
          have HX := Lib.hid hx
          clear hx hw5 hgs hk5 hS1 hS2 hS3 hS4 hSO hgv
          go_upto_region 8 with fail
          rw [← HW5.out, ← HGS.out]
          clear g0 g1 g2 g3 y4
          go_cut [5] (fun o wx => o = .bool SO ∧ wx = w5)
          case first =>
            cases b with
            | false =>
              obtain rfl : SO = false := GV.out
              go_wp2
              go_meet
              case rel => exact ⟨rfl, rfl⟩
            | true =>
              go_wp2_with fail
              refine (in7_e G1.out _).mono ?_
              rintro _ _ ⟨rfl, rfl⟩
              cases S1 with
              | false =>
                obtain rfl : SO = false := by rw [GV.out]; simp [*]
                go_wp2
                go_meet
                case rel => exact ⟨rfl, rfl⟩
              | true =>
                go_wp2_with fail
                refine (in7_e G2.out _).mono ?_
                rintro _ _ ⟨rfl, rfl⟩
                cases S2 with
                | false =>
                  obtain rfl : SO = false := by rw [GV.out]; simp [*]
                  go_wp2
                  go_meet
                  case rel => exact ⟨rfl, rfl⟩
                | true =>
                  go_wp2_with fail
                  refine (in7_e G3.out _).mono ?_
                  rintro _ _ ⟨rfl, rfl⟩
                  cases S3 with
                  | false =>
                    obtain rfl : SO = false := by rw [GV.out]; simp [*]
                    go_wp2
                    go_meet
                    case rel => exact ⟨rfl, rfl⟩
                  | true =>
                    go_wp2_with fail
                    refine (in7_e G4.out _).mono ?_
                    rintro _ _ ⟨rfl, rfl⟩
                    cases S4 with
                    | false =>
                      obtain rfl : SO = false := by rw [GV.out]; simp [*]
                      go_wp2
                      go_meet
                      case rel => exact ⟨rfl, rfl⟩
                    | true =>
                      obtain rfl : SO = true := by rw [GV.out]; simp [*]
                      go_wp2
                      go_meet
                      case rel => exact ⟨rfl, rfl⟩
          case rest =>
            obtain ⟨rfl, hwc⟩ := hcut
            have hwc := hwc.symm
            subst hwc
            obtain ⟨RO, hRO⟩ : ∃ B, (SO && rises (prevC Ses.client s.sess j) x.client) = B := ⟨_, rfl⟩
            have RV := Lib.hid hRO
            clear hRO
            go_upto_region 9 with fail
            have FIN := Lib.hid (show F1 = (RO && sesGo (prevC Ses.client s.sess (j + 1)) (s.sess.drop (j + 1))) by rw [HFB.out, HST.out, HPC.out, ← RV.out, ← GSO.out]; simp only [Bool.and_assoc])
            cases SO with
            | false =>
              obtain rfl : RO = false := RV.out.symm
              go_quiet (fail)
              go_wp2
              go_roundw
              case rel => exact ⟨j + 1, _, by omega, by go_num, rfl, FIN.out, bel_drew' hb5 _⟩
              case measure => simp [intOf]; omega
            | true =>
              by_cases hj0 : 0 < j
              · obtain ⟨i, hji⟩ : ∃ i, i = j - 1 := ⟨j - 1, rfl⟩
                have hin : i < n1 := by omega
                obtain ⟨ad', y, hA, _, hy, g0, _, _, _⟩ := rse_get (HR1.out.below hb5) hin
                cases hA
                have f1 : IntKind.i64.wrap ((j : Int) - 1) = (i : Int) := by rw [IntKind.wrap_i64]; omega
                have q0 : ((j : Int) == 0) = false := by rw [beq_eq_false_iff_ne]; omega
                have HA := Lib.hid (show prevC Ses.client s.sess j = some y.client by unfold prevC; rw [if_neg (by omega), ← hji, hy]; rfl)
                clear hji hy
                by_cases hxy : y.client < x.client
                · obtain rfl : RO = true := by rw [← RV.out, HA.out]; simpa [rises] using hxy
                  go_quiet (fail)
                  go_wp2
                  go_roundw
                  case rel => exact ⟨j + 1, _, by omega, by go_num, rfl, FIN.out, bel_drew' hb5 _⟩
                  case measure => simp [intOf]; omega
                · obtain rfl : RO = false := by rw [← RV.out, HA.out]; simpa [rises] using hxy
                  have hxy' : decide (y.client < x.client) = false := decide_eq_false hxy
                  go_quiet (fail)
                  go_wp2
                  go_roundw
                  case rel => exact ⟨j + 1, _, by omega, by go_num, rfl, FIN.out, bel_drew' hb5 _⟩
                  case measure => simp [intOf]; omega
              · obtain rfl : RO = true := by rw [← RV.out]; unfold prevC; rw [if_pos (by omega)]; rfl
                have q0 : ((j : Int) == 0) = true := by rw [show j = 0 by omega]; rfl
                go_quiet (fail)
                go_wp2
                go_roundw
                case rel => exact ⟨j + 1, _, by omega, by go_num, rfl, FIN.out, bel_drew' hb5 _⟩
                case measure => simp [intOf]; omega
        · obtain rfl : j = n1 := by omega
          have hfb := HFB.out
          rw [List.drop_of_length_le (by rw [HL1.out]; exact Nat.le_refl _)] at hfb
          obtain rfl : b = F1 := by rw [hfb]; cases b <;> rfl
          obtain ⟨F2, hF2⟩ : ∃ F, (b && opnGo none s.opens) = F := ⟨_, rfl⟩
          have HF2 := Lib.hid hF2
          clear hfb hF2 HFB
          go_wp2
          go_loopw [5, 8] (fun ob i wr => ∃ (j : Nat) (b : Bool), j ≤ n2 ∧ i = .int .i64 (j : Int) ∧ ob = .bool b ∧ F2 = (b && opnGo (prevC Opn.set s.opens j) (s.opens.drop j)) ∧ Below w0.heap.size w0 wr) (fun _ i _ => n2 - (intOf i).toNat)
          case atStart => exact ⟨0, b, Nat.zero_le _, rfl, rfl, HF2.out.symm, hb⟩
          case round =>
            clear hb hsz y4
            obtain ⟨j2, b2, hj2, rfl, rfl, hfb, hb⟩ := hrel
            have HFB := Lib.hid hfb
            clear hfb
            have hsz := hb.size
            have y5 := (hb.cell (p := ⟨u.heap.size, 5, none⟩) hs0).trans k5
            by_cases hlt2 : j2 < n2
            · obtain ⟨ad, x, rfl, hab, hx, g0, g1⟩ := rop_get (HR2.out.below hb) hlt2
              have HST := Lib.hid (opnGo_step hx (prevC Opn.set s.opens j2))
              have HPC := Lib.hid (prevC_succ (f := Opn.set) hx)
              obtain ⟨w5, hw5⟩ : ∃ w5 : World, w5 = wr.alloc (.cells #[.int .i64 x.set, .int .i64 x.client] 44) := ⟨_, rfl⟩
              obtain ⟨gs, hgs⟩ : ∃ gs, gs = wr.heap.size := ⟨_, rfl⟩
              have hk5 : Blk w5 gs 44 #[.int .i64 x.set, .int .i64 x.client] := by rw [hw5, hgs]; exact Blk.new _ _ _
              have hb5 : Below w0.heap.size w0 w5 := by rw [hw5]; exact hb.alloc hsz _
              have x0 := hk5.cell 0
              have x1 := hk5.cell 1
              simp at x0 x1
              have z5 := (hb5.cell (p := ⟨u.heap.size, 5, none⟩) hs0).trans k5
              have HW5 := Lib.hid hw5
              have HGS := Lib.hid hgs
              obtain ⟨RO, hRO⟩ : ∃ B, (b2 && (opnOk x && rises (prevC Opn.set s.opens j2) x.set)) = B := ⟨_, rfl⟩
              obtain ⟨S1, hS1⟩ : ∃ B, inR x.set 1 8 = B := ⟨_, rfl⟩
              obtain ⟨S2, hS2⟩ : ∃ B, inR x.client 1 8 = B := ⟨_, rfl⟩
              have hrv : RO = (b2 && ((S1 && S2) && rises (prevC Opn.set s.opens j2) x.set)) := by rw [← hRO, ← hS1, ← hS2]; rfl
              have RV := Lib.hid hrv
              have RO1 := Lib.hid hRO
              have G1 := Lib.hid hS1
              have G2 := Lib.hid hS2
              clear hx hw5 hgs hk5 hS1 hS2 hRO hrv
              go_upto_region 14 with fail
              rw [← HW5.out, ← HGS.out]
              clear g0 g1 y5
              have FIN := Lib.hid (show F2 = (RO && opnGo (prevC Opn.set s.opens (j2 + 1)) (s.opens.drop (j2 + 1))) by rw [HFB.out, HST.out, HPC.out, ← RO1.out]; simp only [Bool.and_assoc])
              cases b2 with
              | false =>
                obtain rfl : RO = false := RV.out
                go_quiet (fail)
                go_wp2
                go_roundw
                case rel => exact ⟨j2 + 1, _, by omega, by go_num, rfl, FIN.out, bel_drew' hb5 _⟩
                case measure => simp [intOf]; omega
              | true =>
                cases S1 with
                | false =>
                  obtain rfl : RO = false := RV.out
                  go_quiet (first | (with_reducible exact Calls.quiet_of_same (in7_q G1.out _)) | (with_reducible exact Calls.quiet_of_same (in7_q G2.out _)))
                  go_wp2
                  go_roundw
                  case rel => exact ⟨j2 + 1, _, by omega, by go_num, rfl, FIN.out, bel_drew' hb5 _⟩
                  case measure => simp [intOf]; omega
                | true =>
                  cases S2 with
                  | false =>
                    obtain rfl : RO = false := RV.out
                    go_quiet (first | (with_reducible exact Calls.quiet_of_same (in7_q G1.out _)) | (with_reducible exact Calls.quiet_of_same (in7_q G2.out _)))
                    go_wp2
                    go_roundw
                    case rel => exact ⟨j2 + 1, _, by omega, by go_num, rfl, FIN.out, bel_drew' hb5 _⟩
                    case measure => simp [intOf]; omega
                  | true =>
                    by_cases hj0 : 0 < j2
                    · obtain ⟨i, hji⟩ : ∃ i, i = j2 - 1 := ⟨j2 - 1, rfl⟩
                      have hin : i < n2 := by omega
                      obtain ⟨ad', y, hA, _, hy, g0, _⟩ := rop_get (HR2.out.below hb5) hin
                      cases hA
                      have f1 : IntKind.i64.wrap ((j2 : Int) - 1) = (i : Int) := by rw [IntKind.wrap_i64]; omega
                      have q0 : ((j2 : Int) == 0) = false := by rw [beq_eq_false_iff_ne]; omega
                      have HA := Lib.hid (show prevC Opn.set s.opens j2 = some y.set by unfold prevC; rw [if_neg (by omega), ← hji, hy]; rfl)
                      clear hji hy
                      by_cases hxy : y.set < x.set
                      · obtain rfl : RO = true := by rw [RV.out, HA.out]; simpa [rises] using hxy
                        go_quiet (first | (with_reducible exact Calls.quiet_of_same (in7_q G1.out _)) | (with_reducible exact Calls.quiet_of_same (in7_q G2.out _)))
                        go_wp2
                        go_roundw
                        case rel => exact ⟨j2 + 1, _, by omega, by go_num, rfl, FIN.out, bel_drew' hb5 _⟩
                        case measure => simp [intOf]; omega
                      · obtain rfl : RO = false := by rw [RV.out, HA.out]; simpa [rises] using hxy
                        have hxy' : decide (y.set < x.set) = false := decide_eq_false hxy
                        go_quiet (first | (with_reducible exact Calls.quiet_of_same (in7_q G1.out _)) | (with_reducible exact Calls.quiet_of_same (in7_q G2.out _)))
                        go_wp2
                        go_roundw
                        case rel => exact ⟨j2 + 1, _, by omega, by go_num, rfl, FIN.out, bel_drew' hb5 _⟩
                        case measure => simp [intOf]; omega
                    · obtain rfl : RO = true := by rw [RV.out]; unfold prevC; rw [if_pos (by omega)]; rfl
                      have q0 : ((j2 : Int) == 0) = true := by rw [show j2 = 0 by omega]; rfl
                      go_quiet (first | (with_reducible exact Calls.quiet_of_same (in7_q G1.out _)) | (with_reducible exact Calls.quiet_of_same (in7_q G2.out _)))
                      go_wp2
                      go_roundw
                      case rel => exact ⟨j2 + 1, _, by omega, by go_num, rfl, FIN.out, bel_drew' hb5 _⟩
                      case measure => simp [intOf]; omega
            · obtain rfl : j2 = n2 := by omega
              have hfb := HFB.out
              rw [List.drop_of_length_le (by rw [HL2.out]; exact Nat.le_refl _)] at hfb
              obtain rfl : b2 = F2 := by rw [hfb]; cases b2 <;> rfl
              obtain ⟨MM, hMM⟩ : ∃ MM, IntKind.i64.wrap (s.next - 1) = MM := ⟨_, rfl⟩
              have HMX := Lib.hid hMM
              obtain ⟨F3, hF3⟩ : ∃ F, (b2 && snpGo MM v none s.snaps) = F := ⟨_, rfl⟩
              have HF3 := Lib.hid hF3
              have HL3 := Lib.hid hl3
              clear hfb hF3 HFB hMM
              go_wp2
              go_loopw [5, 10] (fun ob i wr => ∃ (j : Nat) (b : Bool), j ≤ n3 ∧ i = .int .i64 (j : Int) ∧ ob = .bool b ∧ F3 = (b && snpGo MM v (prevC Snp.id s.snaps j) (s.snaps.drop j)) ∧ Below w0.heap.size w0 wr) (fun _ i _ => n3 - (intOf i).toNat)
              case atStart => exact ⟨0, b2, Nat.zero_le _, rfl, rfl, HF3.out.symm, hb⟩
              case round =>
                clear hb hsz y5
                obtain ⟨j3, b3, hj3, rfl, rfl, hfb, hb⟩ := hrel
                have HFB := Lib.hid hfb
                clear hfb
                have hsz := hb.size
                have y6 := (hb.cell (p := ⟨u.heap.size, 6, none⟩) hs0).trans k6
                have y1 := (hb.cell (p := ⟨u.heap.size, 1, none⟩) hs0).trans k1
                by_cases hlt3 : j3 < n3
                · obtain ⟨ad, x, t, rfl, hab, hx, _, g0, g1, g2, g3, g4, e1, e2, e3⟩ := rds_get (HR3.out.below hb) hlt3
                  have HST := Lib.hid (snpGo_step hx MM v (prevC Snp.id s.snaps j3))
                  have HPC := Lib.hid (prevC_succ (f := Snp.id) hx)
                  have HSX := Lib.hid (HT.out.snaps x (List.mem_of_getElem? hx))
                  have HRD := Lib.hid (show RdSn wr wr.heap.size x t from ⟨e1.more hsz, e2, e3⟩)
                  obtain ⟨SK, hSK⟩ : ∃ B, snapOk x MM v = B := ⟨_, rfl⟩
                  have HSK := Lib.hid (show snapOk x (IntKind.i64.wrap (s.next - 1)) v = SK by rw [HMX.out]; exact hSK)
                  have HSK2 := Lib.hid hSK
                  have HHW := Lib.hid (Nat.lt_of_lt_of_le hs0 hsz)
                  have HAB := Lib.hid (show (ad.add (j3 * 5)).block < wr.heap.size by rw [add_block]; exact Nat.lt_of_lt_of_le hab hsz)
                  have hj3i : (j3 : Int) < (n3 : Int) := by omega
                  clear hx e1 e2 e3 hSK
                  go_upto_region 18 with fail
                  refine wp_region_grew (n := 181) (Say [(146, isv (.pointer (some ⟨u.heap.size, 6, none⟩))), (147, isv (.slice (some ad) n3 c3)), (148, isv (.int .i64 (j3 : Int))), (149, isv (.pointer (some (ad.add (j3 * 5))))), (150, isv (.agg #[.int .i64 x.id, .int .i64 x.set, .slice t.1 x.chunks.length t.2, .bool x.held, .string (strOf x.tag)])), (151, isv (.pointer (some ⟨u.heap.size, 1, none⟩))), (152, isv (.int .i64 s.next)), (153, isv (.int .i64 v)), (154, isv (.bool SK)), (11, isv (.bool SK))]) (by kernel_rfl) (by kernel_rfl) rfl ⟨?_, ?_, ?_, ?_, ?_, ?_, ?_, ?_, ?_, ?_, trivial⟩ ?_
                  · refine owed_val _ rfl rfl (fun _ => rfl) fun fr w hC hK => ?_
                    have k2 : slot fr 2 = .pointer (some ⟨u.heap.size, 0, none⟩) := known_out hK 2 (by kernel_rfl)
                    clear hK
                    unfold slot at k2
                    go_simp
                  · refine owed_val _ rfl rfl (fun _ => rfl) fun fr w hC hK => ?_
                    have k146 : slot fr 146 = .pointer (some ⟨u.heap.size, 6, none⟩) := known_in hK 146 (by kernel_rfl)
                    clear hK
                    unfold slot at k146
                    have x0 := (Below.cell hC (p := ⟨u.heap.size, 6, none⟩) HHW.out).trans y6
                    go_simp
                  · exact owed_move rfl rfl (.inl rfl) fun fr w _ hK => known_out hK 10 (by kernel_rfl)
                  · refine owed_val _ rfl rfl (fun _ => rfl) fun fr w hC hK => ?_
                    have k147 : slot fr 147 = .slice (some ad) n3 c3 := known_in hK 147 (by kernel_rfl)
                    have k148 : slot fr 148 = .int .i64 (j3 : Int) := known_in hK 148 (by kernel_rfl)
                    clear hK
                    unfold slot at k147 k148
                    have f2 : ¬ n3 ≤ j3 := by omega
                    go_simp
                  · refine owed_val _ rfl rfl (fun _ => rfl) fun fr w hC hK => ?_
                    have k149 : slot fr 149 = .pointer (some (ad.add (j3 * 5))) := known_in hK 149 (by kernel_rfl)
                    clear hK
                    unfold slot at k149
                    have x0 := (Below.cell hC (p := ad.add (j3 * 5)) HAB.out).trans g0
                    have x1 := (Below.cell hC (p := ⟨(ad.add (j3 * 5)).block, (ad.add (j3 * 5)).off + 1, none⟩) HAB.out).trans g1
                    have x2 := (Below.cell hC (p := ⟨(ad.add (j3 * 5)).block, (ad.add (j3 * 5)).off + 2, none⟩) HAB.out).trans g2
                    have x3 := (Below.cell hC (p := ⟨(ad.add (j3 * 5)).block, (ad.add (j3 * 5)).off + 3, none⟩) HAB.out).trans g3
                    have x4 := (Below.cell hC (p := ⟨(ad.add (j3 * 5)).block, (ad.add (j3 * 5)).off + 4, none⟩) HAB.out).trans g4
                    go_simp
                  · refine owed_val _ rfl rfl (fun _ => rfl) fun fr w hC hK => ?_
                    have k2 : slot fr 2 = .pointer (some ⟨u.heap.size, 0, none⟩) := known_out hK 2 (by kernel_rfl)
                    clear hK
                    unfold slot at k2
                    go_simp
                  · refine owed_val _ rfl rfl (fun _ => rfl) fun fr w hC hK => ?_
                    have k151 : slot fr 151 = .pointer (some ⟨u.heap.size, 1, none⟩) := known_in hK 151 (by kernel_rfl)
                    clear hK
                    unfold slot at k151
                    have x0 := (Below.cell hC (p := ⟨u.heap.size, 1, none⟩) HHW.out).trans y1
                    go_simp
                  · exact owed_move rfl rfl (.inl rfl) fun fr w _ hK => known_out hK 1 (by kernel_rfl)
                  · refine owed_plain rfl rfl fun fr w hC hK K hk => ?_
                    have k150 : slot fr 150 = .agg #[.int .i64 x.id, .int .i64 x.set, .slice t.1 x.chunks.length t.2, .bool x.held, .string (strOf x.tag)] := known_in hK 150 (by kernel_rfl)
                    have k152 : slot fr 152 = .int .i64 s.next := known_in hK 152 (by kernel_rfl)
                    have k153 : slot fr 153 = .int .i64 v := known_in hK 153 (by kernel_rfl)
                    clear hK
                    unfold slot at k150 k152 k153
                    go_simp
                    refine (snap7_any x t s.next v w ((HRD.out.below hC).more (Below.size hC)) HSX.out HT.out.x hvv).mono ?_
                    rintro e w' ⟨rfl, hb'⟩
                    exact hk _ _ hb' (congrArg Value.bool HSK.out)
                  · exact owed_move rfl rfl (.inr rfl) fun fr w _ hK => known_in hK 154 (by kernel_rfl)
                  intro vs w9 hg9 hgood
                  have h11 : vs 11 = .bool SK := hgood.2.2.2.2.2.2.2.2.2.1
                  clear hgood
                  have hb9 : Below w0.heap.size w0 w9 := hb.trans (Below.mono hg9 hsz)
                  simp only [putsOf]
                  rw [h11]
                  go_simp
                  have z6 := (hb9.cell (p := ⟨u.heap.size, 6, none⟩) hs0).trans k6
                  replace g0 := (Below.cell hg9 (p := ad.add (j3 * 5)) HAB.out).trans g0
                  clear y6 y1 g1 g2 g3 g4
                  obtain ⟨RO, hRO⟩ : ∃ B, (b3 && (SK && rises (prevC Snp.id s.snaps j3) x.id)) = B := ⟨_, rfl⟩
                  have RV := Lib.hid hRO
                  clear hRO
                  go_upto_region 19 with fail
                  have FIN := Lib.hid (show F3 = (RO && snpGo MM v (prevC Snp.id s.snaps (j3 + 1)) (s.snaps.drop (j3 + 1))) by rw [HFB.out, HST.out, HPC.out, HSK2.out, ← RV.out]; simp only [Bool.and_assoc])
                  cases b3 with
                  | false =>
                    obtain rfl : RO = false := RV.out.symm
                    go_quiet (fail)
                    go_wp2
                    go_roundw
                    case rel => exact ⟨j3 + 1, _, by omega, by go_num, rfl, FIN.out, bel_drew' hb9 _⟩
                    case measure => simp [intOf]; omega
                  | true =>
                    cases SK with
                    | false =>
                      obtain rfl : RO = false := RV.out.symm
                      go_quiet (fail)
                      go_wp2
                      go_roundw
                      case rel => exact ⟨j3 + 1, _, by omega, by go_num, rfl, FIN.out, bel_drew' hb9 _⟩
                      case measure => simp [intOf]; omega
                    | true =>
                      by_cases hj0 : 0 < j3
                      · obtain ⟨i, hji⟩ : ∃ i, i = j3 - 1 := ⟨j3 - 1, rfl⟩
                        have hin : i < n3 := by omega
                        obtain ⟨ad', y, _, hA, _, hy, _, m0, _, _, _, _, _, _, _⟩ := rds_get (HR3.out.below hb9) hin
                        cases hA
                        have f1 : IntKind.i64.wrap ((j3 : Int) - 1) = (i : Int) := by rw [IntKind.wrap_i64]; omega
                        have q0 : ((j3 : Int) == 0) = false := by rw [beq_eq_false_iff_ne]; omega
                        have HA := Lib.hid (show prevC Snp.id s.snaps j3 = some y.id by unfold prevC; rw [if_neg (by omega), ← hji, hy]; rfl)
                        have hini : (i : Int) < (n3 : Int) := by omega
                        clear hji hy
                        by_cases hxy : y.id < x.id
                        · obtain rfl : RO = true := by rw [← RV.out, HA.out]; simpa [rises] using hxy
                          go_quiet (fail)
                          go_wp2
                          go_roundw
                          case rel => exact ⟨j3 + 1, _, by omega, by go_num, rfl, FIN.out, bel_drew' hb9 _⟩
                          case measure => simp [intOf]; omega
                        · obtain rfl : RO = false := by rw [← RV.out, HA.out]; simpa [rises] using hxy
                          have hxy' : decide (y.id < x.id) = false := decide_eq_false hxy
                          go_quiet (fail)
                          go_wp2
                          go_roundw
                          case rel => exact ⟨j3 + 1, _, by omega, by go_num, rfl, FIN.out, bel_drew' hb9 _⟩
                          case measure => simp [intOf]; omega
                      · obtain rfl : RO = true := by rw [← RV.out]; unfold prevC; rw [if_pos (by omega)]; rfl
                        have q0 : ((j3 : Int) == 0) = true := by rw [show j3 = 0 by omega]; rfl
                        go_quiet (fail)
                        go_wp2
                        go_roundw
                        case rel => exact ⟨j3 + 1, _, by omega, by go_num, rfl, FIN.out, bel_drew' hb9 _⟩
                        case measure => simp [intOf]; omega
                · obtain rfl : j3 = n3 := by omega
                  have hfb := HFB.out
                  rw [List.drop_of_length_le (by rw [HL3.out]; exact Nat.le_refl _)] at hfb
                  obtain rfl : b3 = F3 := by rw [hfb]; cases b3 <;> rfl
                  have hfin : M = if b3 then 0 else 6 := by rw [HMM.out, HMX.out, ← HF3.out, ← HF2.out, ← HF1.out, Bool.and_assoc, Bool.and_assoc]
                  have HFIN := Lib.hid hfin
                  clear hfb hfin HFB
                  have hbw : Below u.heap.size u wr := hb0.trans (hb.mono (Nat.le_of_lt hs0))
                  cases b3 with
                  | false =>
                    obtain rfl : M = 6 := HFIN.out
                    go_wp2
                    go_ret
                    exact ⟨rfl, hbw⟩
                  | true =>
                    obtain rfl : M = 0 := HFIN.out
                    go_wp2
                    go_ret
                    exact ⟨rfl, hbw⟩
end Go.Proofs.Ytdkjdiamekfbdaa
