/-
  StateParts: a row without its i-th element, laid anew and stored: the regions 13, 16, 19, each over whatever frame.
-/
import Derived.Test.YtdkjdiamekfbdaaStPartsT
import Derived.Test.YtdkjdiamekfbdaaLive
import Derived.Test.YtdkjdiamekfbdaaStMem
namespace Go.Proofs.Ytdkjdiamekfbdaa
open Go.RowKit

open Rf (Snp)

set_option maxRecDepth 100000 in
set_option maxHeartbeats 4000000 in
/-- Region 13. -/
theorem cut_13 {Q : Exit → Act → World → Prop} (a0 : Act) (w : World) (gx gy n c i lo : Nat) (A : Option Addr) (rows : List Value) (blk : Array Value) (hs : a0.tmps.size = 136)
    (k3 : slot a0 3 = .pointer (some ⟨gx, 0, none⟩)) (kx : slot a0 14 = .int .i64 (i : Int)) (ky : slot a0 10 = .pointer (some ⟨gy, 0, none⟩))
    (f0 : w.cell? ⟨gx, 4, none⟩ = some (.slice A n c)) (hgx : gx < w.heap.size) (hrd : Rd w lo 4 A n rows) (hlo : lo ≤ w.heap.size) (hin : i < n) (hnc : n ≤ c) (hc : c ≤ 9223372036854775807) (hn : n ≤ 100)
    (one : ∀ x ∈ rows, x.oneCell' = true) (hy : Blk w gy 26 blk) (hyb : ∃ v, blk[4]? = some v)
    (hQ : ∀ (vs : Tmp → Value) (w' : World) (A' : Option Addr) (c' : Nat), Grew w w' → w'.ownsRow w.heap.size 42 4 (.slice A' (i + (n - (i + 1))) c') (i + (n - (i + 1))) (rows.take (i * 4) ++ rows.drop ((i + 1) * 4)) →
      Q .normal (putsOf (#[{ dst := some 44, op := Go.Op.buildSlice 22 0 #[], type := 22, pos := "more.go:48", after := #[], guard := none }, { dst := some 45, op := Go.Op.fieldAddr 26 (Go.Operand.tmp 3) 4, type := 0, pos := "more.go:48", after := #[], guard := none }, { dst := some 46, op := Go.Op.load 22 (Go.Operand.tmp 45), type := 22, pos := "more.go:48", after := #[{ on := 1, ground := Go.Ground.data }], guard := none }, { dst := some 47, op := Go.Op.move (Go.Operand.tmp 14), type := 3, pos := "more.go:48", after := #[], guard := none }, { dst := some 48, op := Go.Op.slice 22 (Go.Operand.tmp 46) none (some (Go.Operand.tmp 47)) none, type := 22, pos := "more.go:48", after := #[{ on := 2, ground := Go.Ground.data }, { on := 3, ground := Go.Ground.data }], guard := none }, { dst := some 49, op := Go.Op.call { callee := Go.Callee.builtin Go.Builtin.append, args := #[Go.Operand.tmp 44, Go.Operand.tmp 48], argTypes := #[22, 22] }, type := 22, pos := "more.go:48", after := #[{ on := 0, ground := Go.Ground.data }, { on := 4, ground := Go.Ground.data }], guard := none }, { dst := some 50, op := Go.Op.fieldAddr 26 (Go.Operand.tmp 3) 4, type := 0, pos := "more.go:48", after := #[], guard := none }, { dst := some 51, op := Go.Op.load 22 (Go.Operand.tmp 50), type := 22, pos := "more.go:48", after := #[{ on := 6, ground := Go.Ground.data }], guard := none }, { dst := some 52, op := Go.Op.move (Go.Operand.tmp 14), type := 3, pos := "more.go:48", after := #[], guard := none }, { dst := some 53, op := Go.Op.binOp Go.BinOp.add 3 (Go.Operand.tmp 52) (Go.Operand.const (Go.Value.int Go.IntKind.i64 1)) 3, type := 3, pos := "more.go:48", after := #[{ on := 8, ground := Go.Ground.data }], guard := none }, { dst := some 54, op := Go.Op.slice 22 (Go.Operand.tmp 51) (some (Go.Operand.tmp 53)) none none, type := 22, pos := "more.go:48", after := #[{ on := 7, ground := Go.Ground.data }, { on := 9, ground := Go.Ground.data }], guard := none }, { dst := some 55, op := Go.Op.call { callee := Go.Callee.builtin Go.Builtin.append, args := #[Go.Operand.tmp 49, Go.Operand.tmp 54], argTypes := #[22, 22] }, type := 22, pos := "more.go:48", after := #[{ on := 5, ground := Go.Ground.data }, { on := 10, ground := Go.Ground.data }, { on := 5, ground := Go.Ground.chain }], guard := none }, { dst := some 56, op := Go.Op.fieldAddr 26 (Go.Operand.tmp 10) 4, type := 0, pos := "more.go:48", after := #[{ on := 0, ground := Go.Ground.phase }, { on := 1, ground := Go.Ground.phase }, { on := 2, ground := Go.Ground.phase }, { on := 3, ground := Go.Ground.phase }, { on := 4, ground := Go.Ground.phase }, { on := 5, ground := Go.Ground.phase }, { on := 6, ground := Go.Ground.phase }, { on := 7, ground := Go.Ground.phase }, { on := 8, ground := Go.Ground.phase }, { on := 9, ground := Go.Ground.phase }, { on := 10, ground := Go.Ground.phase }, { on := 11, ground := Go.Ground.phase }], guard := none }, { dst := none, op := Go.Op.store 22 (Go.Operand.tmp 56) (Go.Operand.tmp 55), type := 0, pos := "more.go:48", after := #[{ on := 12, ground := Go.Ground.data }, { on := 11, ground := Go.Ground.data }, { on := 11, ground := Go.Ground.chain }, { on := 0, ground := Go.Ground.phase }, { on := 1, ground := Go.Ground.phase }, { on := 2, ground := Go.Ground.phase }, { on := 3, ground := Go.Ground.phase }, { on := 4, ground := Go.Ground.phase }, { on := 5, ground := Go.Ground.phase }, { on := 6, ground := Go.Ground.phase }, { on := 7, ground := Go.Ground.phase }, { on := 8, ground := Go.Ground.phase }, { on := 9, ground := Go.Ground.phase }, { on := 10, ground := Go.Ground.phase }, { on := 11, ground := Go.Ground.phase }], guard := none }] : Array Oper).toList.dropLast vs a0) (w'.setCell ⟨gy, 4, none⟩ (.slice A' (i + (n - (i + 1))) c'))) :
    (Code.region 13 #[{ dst := some 44, op := Go.Op.buildSlice 22 0 #[], type := 22, pos := "more.go:48", after := #[], guard := none }, { dst := some 45, op := Go.Op.fieldAddr 26 (Go.Operand.tmp 3) 4, type := 0, pos := "more.go:48", after := #[], guard := none }, { dst := some 46, op := Go.Op.load 22 (Go.Operand.tmp 45), type := 22, pos := "more.go:48", after := #[{ on := 1, ground := Go.Ground.data }], guard := none }, { dst := some 47, op := Go.Op.move (Go.Operand.tmp 14), type := 3, pos := "more.go:48", after := #[], guard := none }, { dst := some 48, op := Go.Op.slice 22 (Go.Operand.tmp 46) none (some (Go.Operand.tmp 47)) none, type := 22, pos := "more.go:48", after := #[{ on := 2, ground := Go.Ground.data }, { on := 3, ground := Go.Ground.data }], guard := none }, { dst := some 49, op := Go.Op.call { callee := Go.Callee.builtin Go.Builtin.append, args := #[Go.Operand.tmp 44, Go.Operand.tmp 48], argTypes := #[22, 22] }, type := 22, pos := "more.go:48", after := #[{ on := 0, ground := Go.Ground.data }, { on := 4, ground := Go.Ground.data }], guard := none }, { dst := some 50, op := Go.Op.fieldAddr 26 (Go.Operand.tmp 3) 4, type := 0, pos := "more.go:48", after := #[], guard := none }, { dst := some 51, op := Go.Op.load 22 (Go.Operand.tmp 50), type := 22, pos := "more.go:48", after := #[{ on := 6, ground := Go.Ground.data }], guard := none }, { dst := some 52, op := Go.Op.move (Go.Operand.tmp 14), type := 3, pos := "more.go:48", after := #[], guard := none }, { dst := some 53, op := Go.Op.binOp Go.BinOp.add 3 (Go.Operand.tmp 52) (Go.Operand.const (Go.Value.int Go.IntKind.i64 1)) 3, type := 3, pos := "more.go:48", after := #[{ on := 8, ground := Go.Ground.data }], guard := none }, { dst := some 54, op := Go.Op.slice 22 (Go.Operand.tmp 51) (some (Go.Operand.tmp 53)) none none, type := 22, pos := "more.go:48", after := #[{ on := 7, ground := Go.Ground.data }, { on := 9, ground := Go.Ground.data }], guard := none }, { dst := some 55, op := Go.Op.call { callee := Go.Callee.builtin Go.Builtin.append, args := #[Go.Operand.tmp 49, Go.Operand.tmp 54], argTypes := #[22, 22] }, type := 22, pos := "more.go:48", after := #[{ on := 5, ground := Go.Ground.data }, { on := 10, ground := Go.Ground.data }, { on := 5, ground := Go.Ground.chain }], guard := none }, { dst := some 56, op := Go.Op.fieldAddr 26 (Go.Operand.tmp 10) 4, type := 0, pos := "more.go:48", after := #[{ on := 0, ground := Go.Ground.phase }, { on := 1, ground := Go.Ground.phase }, { on := 2, ground := Go.Ground.phase }, { on := 3, ground := Go.Ground.phase }, { on := 4, ground := Go.Ground.phase }, { on := 5, ground := Go.Ground.phase }, { on := 6, ground := Go.Ground.phase }, { on := 7, ground := Go.Ground.phase }, { on := 8, ground := Go.Ground.phase }, { on := 9, ground := Go.Ground.phase }, { on := 10, ground := Go.Ground.phase }, { on := 11, ground := Go.Ground.phase }], guard := none }, { dst := none, op := Go.Op.store 22 (Go.Operand.tmp 56) (Go.Operand.tmp 55), type := 0, pos := "more.go:48", after := #[{ on := 12, ground := Go.Ground.data }, { on := 11, ground := Go.Ground.data }, { on := 11, ground := Go.Ground.chain }, { on := 0, ground := Go.Ground.phase }, { on := 1, ground := Go.Ground.phase }, { on := 2, ground := Go.Ground.phase }, { on := 3, ground := Go.Ground.phase }, { on := 4, ground := Go.Ground.phase }, { on := 5, ground := Go.Ground.phase }, { on := 6, ground := Go.Ground.phase }, { on := 7, ground := Go.Ground.phase }, { on := 8, ground := Go.Ground.phase }, { on := 9, ground := Go.Ground.phase }, { on := 10, ground := Go.Ground.phase }, { on := 11, ground := Go.Ground.phase }], guard := none }] true).wp Try.prog Q a0 w := by
  obtain ⟨i0, hi0, z0, z1, z2⟩ := info_parts sess_info
  have hund := Try.underlying22
  have t6 : (.agg #[.int .i64 0, .int .i64 0, .int .i64 0, .int .i64 0] : Value).cells.size = 4 := rfl
  have hsl := fun w => run_from (P := Try.prog) 22 42 i0 4 hund hi0 z1 A n c (i + 1) .i64 (show i + 1 ≤ n by omega) w
  have hcut := fun w B (h : Rd w B 4 A n rows) => h.from_ (k := i + 1) (c := c) (by omega) (by omega)
  have b2 : IntKind.i64.wrap ((i : Int) + 1) = (i : Int) + 1 := by rw [IntKind.wrap_i64]; omega
  have hmax : n ≤ maxLen := by unfold maxLen; omega
  obtain ⟨A2, hA2⟩ : ∃ A2, cutAt A c 4 (i + 1) = A2 := ⟨_, rfl⟩
  obtain ⟨m2, hm2⟩ : ∃ m2, n - (i + 1) = m2 := ⟨_, rfl⟩
  obtain ⟨c2, hc2⟩ : ∃ c2, c - (i + 1) = c2 := ⟨_, rfl⟩
  rw [hA2, hm2, hc2] at hsl
  rw [hA2, hm2] at hcut
  rw [hm2] at hQ
  have hm2' : i + m2 < n := by omega
  clear hm2 hc2 hA2
  have o1 : ∀ x ∈ rows.take (i * 4), x.oneCell' = true := fun x hx => one x (List.mem_of_mem_take hx)
  have o2 : ∀ x ∈ rows.drop ((i + 1) * 4), x.oneCell' = true := fun x hx => one x (List.mem_of_mem_drop hx)
  refine wp_region_live2 (n := 136) (C := Grew w) (Γ := (Said3 44 49 55 (fun u w' => w'.ownsRow w.heap.size 42 4 u 0 []) (fun u w' => w'.ownsRow w.heap.size 42 4 u i (rows.take (i * 4))) (fun u w' => w'.ownsRow w.heap.size 42 4 u (i + m2) (rows.take (i * 4) ++ rows.drop ((i + 1) * 4))) (pickV [(45, .pointer (some ⟨gx, 4, none⟩)), (46, .slice A n c), (47, .int .i64 (i : Int)), (48, .slice A i c), (50, .pointer (some ⟨gx, 4, none⟩)), (51, .slice A n c), (52, .int .i64 (i : Int)), (53, .int .i64 ((i : Int) + 1)), (54, .slice A2 m2 c2), (56, .pointer (some ⟨gy, 4, none⟩))]))) rfl (by kernel_rfl) (by kernel_rfl) (by kernel_rfl) hs ⟨rfl, rfl, rfl, Nat.le_refl _, fun _ _ => rfl⟩ ⟨?_, ?_, ?_, ?_, ?_, ?_, ?_, ?_, ?_, ?_, ?_, ?_, ?_, trivial⟩ ?_
  · refine owedl_of rfl rfl fun fr w1 hC hK K hk => ?_
    have hsz : w.heap.size ≤ w1.heap.size := Below.size hC
    have hz := hk (.slice (some ⟨w1.heap.size, 0, none⟩) 0 0) (w1.alloc (.cells #[] 42)) (Below.trans hC (Below.alloc (Below.refl _ _) hsz _)) (said3_kept (not_lives (by kernel_rfl)) (not_lives (by kernel_rfl)) (not_lives (by kernel_rfl))) (said3_1 (World.ownsRow_made (e := 42) (size := 4) w1 #[] 0 hsz (by unfold maxLen; omega) rfl))
    clear hK hk
    unfold Oper.wp
    go_simp
    exact hz
  · refine owedl_val (.pointer (some ⟨gx, 4, none⟩)) rfl rfl (fun _ => (said3_v (by decide)).2 rfl) fun fr w1 hC hK => ?_
    have k3 : slot fr 3 = .pointer (some ⟨gx, 0, none⟩) := (known_out hK 3 (by kernel_rfl)).trans k3
    clear hK
    unfold slot at k3
    go_simp
  · refine owedl_val (.slice A n c) rfl rfl (fun _ => (said3_v (by decide)).2 rfl) fun fr w1 hC hK => ?_
    have g45 := un3_v (known_in hK 45 (by kernel_rfl)) (by decide)
    have k45 : slot fr 45 = .pointer (some ⟨gx, 4, none⟩) := g45
    clear g45
    clear hK
    unfold slot at k45
    have x0 := (Below.cell hC (p := ⟨gx, 4, none⟩) hgx).trans f0
    go_simp
  · exact owedl_move rfl rfl (.inl rfl) fun fr w1 _ hK => (said3_v (by decide)).2 ((known_out hK 14 (by kernel_rfl)).trans kx)
  · refine owedl_val (.slice A i c) rfl rfl (fun _ => (said3_v (by decide)).2 rfl) fun fr w1 hC hK => ?_
    have g46 := un3_v (known_in hK 46 (by kernel_rfl)) (by decide)
    have k46 : slot fr 46 = .slice A n c := g46
    clear g46
    have g47 := un3_v (known_in hK 47 (by kernel_rfl)) (by decide)
    have k47 : slot fr 47 = .int .i64 (i : Int) := g47
    clear g47
    clear hK
    unfold slot at k46 k47
    have b0 : ¬ c < i := by omega
    have b1 : (0 : Int) ≤ (i : Int) := by omega
    have b3 : (i : Int) ≤ (c : Int) := by omega
    go_simp
  · refine owedl_of rfl rfl fun fr w1 hC hK K hk => ?_
    have hsz : w.heap.size ≤ w1.heap.size := Below.size hC
    have hv := un3_1 (known_in hK 44 (by kernel_rfl))
    have g48 := un3_v (known_in hK 48 (by kernel_rfl)) (by decide)
    have k48 : slot fr 48 = .slice A i c := g48
    clear g48
    clear hK
    refine wp_append_rd (.tmp 44) (.tmp 48) 22 (by rfl) w.heap.size 42 i0 (.agg #[.int .i64 0, .int .i64 0, .int .i64 0, .int .i64 0]) 4 32 hund hi0 z0 z1 z2 t6 (by decide) (slot fr 44) 0 [] (eval_slot _ _) hv lo A i c (rows.take (i * 4)) ((eval_slot _ _).trans k48) ((hrd.below (Below.mono hC hlo)).take (by omega)) o1 (by unfold maxLen; omega) (by omega) hsz ?_
    intro v' w' hown hg
    refine hk v' w' (hC.grown hg hsz fun k hk' => (hv.lt k hk').1) (said3_kept (not_lives (by kernel_rfl)) (not_lives (by kernel_rfl)) (not_lives (by kernel_rfl))) (said3_2 (by decide) ?_)
    simpa only [Nat.zero_add, List.nil_append] using hown
  · refine owedl_val (.pointer (some ⟨gx, 4, none⟩)) rfl rfl (fun _ => (said3_v (by decide)).2 rfl) fun fr w1 hC hK => ?_
    have k3 : slot fr 3 = .pointer (some ⟨gx, 0, none⟩) := (known_out hK 3 (by kernel_rfl)).trans k3
    clear hK
    unfold slot at k3
    go_simp
  · refine owedl_val (.slice A n c) rfl rfl (fun _ => (said3_v (by decide)).2 rfl) fun fr w1 hC hK => ?_
    have g50 := un3_v (known_in hK 50 (by kernel_rfl)) (by decide)
    have k50 : slot fr 50 = .pointer (some ⟨gx, 4, none⟩) := g50
    clear g50
    clear hK
    unfold slot at k50
    have x0 := (Below.cell hC (p := ⟨gx, 4, none⟩) hgx).trans f0
    go_simp
  · exact owedl_move rfl rfl (.inl rfl) fun fr w1 _ hK => (said3_v (by decide)).2 ((known_out hK 14 (by kernel_rfl)).trans kx)
  · refine owedl_val (.int .i64 ((i : Int) + 1)) rfl rfl (fun _ => (said3_v (by decide)).2 rfl) fun fr w1 hC hK => ?_
    have g52 := un3_v (known_in hK 52 (by kernel_rfl)) (by decide)
    have k52 : slot fr 52 = .int .i64 (i : Int) := g52
    clear g52
    clear hK
    unfold slot at k52
    have b2' := b2
    go_simp
  · refine owedl_val (.slice A2 m2 c2) rfl rfl (fun _ => (said3_v (by decide)).2 rfl) fun fr w1 hC hK => ?_
    have g51 := un3_v (known_in hK 51 (by kernel_rfl)) (by decide)
    have k51 : slot fr 51 = .slice A n c := g51
    clear g51
    have g53 := un3_v (known_in hK 53 (by kernel_rfl)) (by decide)
    have k53 : slot fr 53 = .int .i64 ((i : Int) + 1) := g53
    clear g53
    clear hK
    unfold slot at k51 k53
    have h1 := hsl w1
    have h2 : (Instr.sliceAt 22 (.slice A n c) (some (.int .i64 ((i : Int) + 1))) none none).run Try.prog w1 = .ok (.slice A2 m2 c2) w1 := by simpa using h1
    clear h1
    go_simp
  · refine owedl_of rfl rfl fun fr w1 hC hK K hk => ?_
    have hsz : w.heap.size ≤ w1.heap.size := Below.size hC
    have hv := un3_2 (by decide) (known_in hK 49 (by kernel_rfl))
    have g54 := un3_v (known_in hK 54 (by kernel_rfl)) (by decide)
    have k54 : slot fr 54 = .slice A2 m2 c2 := g54
    clear g54
    clear hK
    refine wp_append_rd (.tmp 49) (.tmp 54) 22 (by rfl) w.heap.size 42 i0 (.agg #[.int .i64 0, .int .i64 0, .int .i64 0, .int .i64 0]) 4 32 hund hi0 z0 z1 z2 t6 (by decide) (slot fr 49) i (rows.take (i * 4)) (eval_slot _ _) hv lo A2 m2 c2 (rows.drop ((i + 1) * 4)) ((eval_slot _ _).trans k54) (hcut w1 lo (hrd.below (Below.mono hC hlo))) o2 (by unfold maxLen; omega) (by omega) hsz ?_
    intro v' w' hown hg
    refine hk v' w' (hC.grown hg hsz fun k hk' => (hv.lt k hk').1) (said3_kept (not_lives (by kernel_rfl)) (not_lives (by kernel_rfl)) (not_lives (by kernel_rfl))) (said3_3 (by decide) (by decide) ?_)
    simpa only [Nat.zero_add, List.nil_append] using hown
  · refine owedl_val (.pointer (some ⟨gy, 4, none⟩)) rfl rfl (fun _ => (said3_v (by decide)).2 rfl) fun fr w1 hC hK => ?_
    have k10 : slot fr 10 = .pointer (some ⟨gy, 0, none⟩) := (known_out hK 10 (by kernel_rfl)).trans ky
    clear hK
    unfold slot at k10
    go_simp
  · intro vs w' hC hgood
    have h11 : w'.ownsRow w.heap.size 42 4 (vs 55) (i + m2) _ := un3_3 (by decide) (by decide) (hgood 55 (by kernel_rfl))
    have g12 := un3_v (hgood 56 (by kernel_rfl)) (by decide)
    have h12 : vs 56 = .pointer (some ⟨gy, 4, none⟩) := g12
    clear g12
    clear hgood
    obtain ⟨A', c', hv, _, _⟩ := slice_of_own h11
    have hq := hQ vs w' A' c' hC (by rw [← hv]; exact h11)
    have hy' := hy.below hC hy.lt
    have fz := hy'.frozen 4
    obtain ⟨v0, hv0⟩ := hyb
    have fy := (hy'.cell 4).trans hv0
    have q11 : slot (putsOf (#[{ dst := some 44, op := Go.Op.buildSlice 22 0 #[], type := 22, pos := "more.go:48", after := #[], guard := none }, { dst := some 45, op := Go.Op.fieldAddr 26 (Go.Operand.tmp 3) 4, type := 0, pos := "more.go:48", after := #[], guard := none }, { dst := some 46, op := Go.Op.load 22 (Go.Operand.tmp 45), type := 22, pos := "more.go:48", after := #[{ on := 1, ground := Go.Ground.data }], guard := none }, { dst := some 47, op := Go.Op.move (Go.Operand.tmp 14), type := 3, pos := "more.go:48", after := #[], guard := none }, { dst := some 48, op := Go.Op.slice 22 (Go.Operand.tmp 46) none (some (Go.Operand.tmp 47)) none, type := 22, pos := "more.go:48", after := #[{ on := 2, ground := Go.Ground.data }, { on := 3, ground := Go.Ground.data }], guard := none }, { dst := some 49, op := Go.Op.call { callee := Go.Callee.builtin Go.Builtin.append, args := #[Go.Operand.tmp 44, Go.Operand.tmp 48], argTypes := #[22, 22] }, type := 22, pos := "more.go:48", after := #[{ on := 0, ground := Go.Ground.data }, { on := 4, ground := Go.Ground.data }], guard := none }, { dst := some 50, op := Go.Op.fieldAddr 26 (Go.Operand.tmp 3) 4, type := 0, pos := "more.go:48", after := #[], guard := none }, { dst := some 51, op := Go.Op.load 22 (Go.Operand.tmp 50), type := 22, pos := "more.go:48", after := #[{ on := 6, ground := Go.Ground.data }], guard := none }, { dst := some 52, op := Go.Op.move (Go.Operand.tmp 14), type := 3, pos := "more.go:48", after := #[], guard := none }, { dst := some 53, op := Go.Op.binOp Go.BinOp.add 3 (Go.Operand.tmp 52) (Go.Operand.const (Go.Value.int Go.IntKind.i64 1)) 3, type := 3, pos := "more.go:48", after := #[{ on := 8, ground := Go.Ground.data }], guard := none }, { dst := some 54, op := Go.Op.slice 22 (Go.Operand.tmp 51) (some (Go.Operand.tmp 53)) none none, type := 22, pos := "more.go:48", after := #[{ on := 7, ground := Go.Ground.data }, { on := 9, ground := Go.Ground.data }], guard := none }, { dst := some 55, op := Go.Op.call { callee := Go.Callee.builtin Go.Builtin.append, args := #[Go.Operand.tmp 49, Go.Operand.tmp 54], argTypes := #[22, 22] }, type := 22, pos := "more.go:48", after := #[{ on := 5, ground := Go.Ground.data }, { on := 10, ground := Go.Ground.data }, { on := 5, ground := Go.Ground.chain }], guard := none }, { dst := some 56, op := Go.Op.fieldAddr 26 (Go.Operand.tmp 10) 4, type := 0, pos := "more.go:48", after := #[{ on := 0, ground := Go.Ground.phase }, { on := 1, ground := Go.Ground.phase }, { on := 2, ground := Go.Ground.phase }, { on := 3, ground := Go.Ground.phase }, { on := 4, ground := Go.Ground.phase }, { on := 5, ground := Go.Ground.phase }, { on := 6, ground := Go.Ground.phase }, { on := 7, ground := Go.Ground.phase }, { on := 8, ground := Go.Ground.phase }, { on := 9, ground := Go.Ground.phase }, { on := 10, ground := Go.Ground.phase }, { on := 11, ground := Go.Ground.phase }], guard := none }, { dst := none, op := Go.Op.store 22 (Go.Operand.tmp 56) (Go.Operand.tmp 55), type := 0, pos := "more.go:48", after := #[{ on := 12, ground := Go.Ground.data }, { on := 11, ground := Go.Ground.data }, { on := 11, ground := Go.Ground.chain }, { on := 0, ground := Go.Ground.phase }, { on := 1, ground := Go.Ground.phase }, { on := 2, ground := Go.Ground.phase }, { on := 3, ground := Go.Ground.phase }, { on := 4, ground := Go.Ground.phase }, { on := 5, ground := Go.Ground.phase }, { on := 6, ground := Go.Ground.phase }, { on := 7, ground := Go.Ground.phase }, { on := 8, ground := Go.Ground.phase }, { on := 9, ground := Go.Ground.phase }, { on := 10, ground := Go.Ground.phase }, { on := 11, ground := Go.Ground.phase }], guard := none }] : Array Oper).toList.dropLast vs a0) 55 = .slice A' (i + m2) c' := (puts_in hs (by kernel_rfl)).trans hv
    have q12 : slot (putsOf (#[{ dst := some 44, op := Go.Op.buildSlice 22 0 #[], type := 22, pos := "more.go:48", after := #[], guard := none }, { dst := some 45, op := Go.Op.fieldAddr 26 (Go.Operand.tmp 3) 4, type := 0, pos := "more.go:48", after := #[], guard := none }, { dst := some 46, op := Go.Op.load 22 (Go.Operand.tmp 45), type := 22, pos := "more.go:48", after := #[{ on := 1, ground := Go.Ground.data }], guard := none }, { dst := some 47, op := Go.Op.move (Go.Operand.tmp 14), type := 3, pos := "more.go:48", after := #[], guard := none }, { dst := some 48, op := Go.Op.slice 22 (Go.Operand.tmp 46) none (some (Go.Operand.tmp 47)) none, type := 22, pos := "more.go:48", after := #[{ on := 2, ground := Go.Ground.data }, { on := 3, ground := Go.Ground.data }], guard := none }, { dst := some 49, op := Go.Op.call { callee := Go.Callee.builtin Go.Builtin.append, args := #[Go.Operand.tmp 44, Go.Operand.tmp 48], argTypes := #[22, 22] }, type := 22, pos := "more.go:48", after := #[{ on := 0, ground := Go.Ground.data }, { on := 4, ground := Go.Ground.data }], guard := none }, { dst := some 50, op := Go.Op.fieldAddr 26 (Go.Operand.tmp 3) 4, type := 0, pos := "more.go:48", after := #[], guard := none }, { dst := some 51, op := Go.Op.load 22 (Go.Operand.tmp 50), type := 22, pos := "more.go:48", after := #[{ on := 6, ground := Go.Ground.data }], guard := none }, { dst := some 52, op := Go.Op.move (Go.Operand.tmp 14), type := 3, pos := "more.go:48", after := #[], guard := none }, { dst := some 53, op := Go.Op.binOp Go.BinOp.add 3 (Go.Operand.tmp 52) (Go.Operand.const (Go.Value.int Go.IntKind.i64 1)) 3, type := 3, pos := "more.go:48", after := #[{ on := 8, ground := Go.Ground.data }], guard := none }, { dst := some 54, op := Go.Op.slice 22 (Go.Operand.tmp 51) (some (Go.Operand.tmp 53)) none none, type := 22, pos := "more.go:48", after := #[{ on := 7, ground := Go.Ground.data }, { on := 9, ground := Go.Ground.data }], guard := none }, { dst := some 55, op := Go.Op.call { callee := Go.Callee.builtin Go.Builtin.append, args := #[Go.Operand.tmp 49, Go.Operand.tmp 54], argTypes := #[22, 22] }, type := 22, pos := "more.go:48", after := #[{ on := 5, ground := Go.Ground.data }, { on := 10, ground := Go.Ground.data }, { on := 5, ground := Go.Ground.chain }], guard := none }, { dst := some 56, op := Go.Op.fieldAddr 26 (Go.Operand.tmp 10) 4, type := 0, pos := "more.go:48", after := #[{ on := 0, ground := Go.Ground.phase }, { on := 1, ground := Go.Ground.phase }, { on := 2, ground := Go.Ground.phase }, { on := 3, ground := Go.Ground.phase }, { on := 4, ground := Go.Ground.phase }, { on := 5, ground := Go.Ground.phase }, { on := 6, ground := Go.Ground.phase }, { on := 7, ground := Go.Ground.phase }, { on := 8, ground := Go.Ground.phase }, { on := 9, ground := Go.Ground.phase }, { on := 10, ground := Go.Ground.phase }, { on := 11, ground := Go.Ground.phase }], guard := none }, { dst := none, op := Go.Op.store 22 (Go.Operand.tmp 56) (Go.Operand.tmp 55), type := 0, pos := "more.go:48", after := #[{ on := 12, ground := Go.Ground.data }, { on := 11, ground := Go.Ground.data }, { on := 11, ground := Go.Ground.chain }, { on := 0, ground := Go.Ground.phase }, { on := 1, ground := Go.Ground.phase }, { on := 2, ground := Go.Ground.phase }, { on := 3, ground := Go.Ground.phase }, { on := 4, ground := Go.Ground.phase }, { on := 5, ground := Go.Ground.phase }, { on := 6, ground := Go.Ground.phase }, { on := 7, ground := Go.Ground.phase }, { on := 8, ground := Go.Ground.phase }, { on := 9, ground := Go.Ground.phase }, { on := 10, ground := Go.Ground.phase }, { on := 11, ground := Go.Ground.phase }], guard := none }] : Array Oper).toList.dropLast vs a0) 56 = .pointer (some ⟨gy, 4, none⟩) := (puts_in hs (by kernel_rfl)).trans h12
    generalize putsOf (#[{ dst := some 44, op := Go.Op.buildSlice 22 0 #[], type := 22, pos := "more.go:48", after := #[], guard := none }, { dst := some 45, op := Go.Op.fieldAddr 26 (Go.Operand.tmp 3) 4, type := 0, pos := "more.go:48", after := #[], guard := none }, { dst := some 46, op := Go.Op.load 22 (Go.Operand.tmp 45), type := 22, pos := "more.go:48", after := #[{ on := 1, ground := Go.Ground.data }], guard := none }, { dst := some 47, op := Go.Op.move (Go.Operand.tmp 14), type := 3, pos := "more.go:48", after := #[], guard := none }, { dst := some 48, op := Go.Op.slice 22 (Go.Operand.tmp 46) none (some (Go.Operand.tmp 47)) none, type := 22, pos := "more.go:48", after := #[{ on := 2, ground := Go.Ground.data }, { on := 3, ground := Go.Ground.data }], guard := none }, { dst := some 49, op := Go.Op.call { callee := Go.Callee.builtin Go.Builtin.append, args := #[Go.Operand.tmp 44, Go.Operand.tmp 48], argTypes := #[22, 22] }, type := 22, pos := "more.go:48", after := #[{ on := 0, ground := Go.Ground.data }, { on := 4, ground := Go.Ground.data }], guard := none }, { dst := some 50, op := Go.Op.fieldAddr 26 (Go.Operand.tmp 3) 4, type := 0, pos := "more.go:48", after := #[], guard := none }, { dst := some 51, op := Go.Op.load 22 (Go.Operand.tmp 50), type := 22, pos := "more.go:48", after := #[{ on := 6, ground := Go.Ground.data }], guard := none }, { dst := some 52, op := Go.Op.move (Go.Operand.tmp 14), type := 3, pos := "more.go:48", after := #[], guard := none }, { dst := some 53, op := Go.Op.binOp Go.BinOp.add 3 (Go.Operand.tmp 52) (Go.Operand.const (Go.Value.int Go.IntKind.i64 1)) 3, type := 3, pos := "more.go:48", after := #[{ on := 8, ground := Go.Ground.data }], guard := none }, { dst := some 54, op := Go.Op.slice 22 (Go.Operand.tmp 51) (some (Go.Operand.tmp 53)) none none, type := 22, pos := "more.go:48", after := #[{ on := 7, ground := Go.Ground.data }, { on := 9, ground := Go.Ground.data }], guard := none }, { dst := some 55, op := Go.Op.call { callee := Go.Callee.builtin Go.Builtin.append, args := #[Go.Operand.tmp 49, Go.Operand.tmp 54], argTypes := #[22, 22] }, type := 22, pos := "more.go:48", after := #[{ on := 5, ground := Go.Ground.data }, { on := 10, ground := Go.Ground.data }, { on := 5, ground := Go.Ground.chain }], guard := none }, { dst := some 56, op := Go.Op.fieldAddr 26 (Go.Operand.tmp 10) 4, type := 0, pos := "more.go:48", after := #[{ on := 0, ground := Go.Ground.phase }, { on := 1, ground := Go.Ground.phase }, { on := 2, ground := Go.Ground.phase }, { on := 3, ground := Go.Ground.phase }, { on := 4, ground := Go.Ground.phase }, { on := 5, ground := Go.Ground.phase }, { on := 6, ground := Go.Ground.phase }, { on := 7, ground := Go.Ground.phase }, { on := 8, ground := Go.Ground.phase }, { on := 9, ground := Go.Ground.phase }, { on := 10, ground := Go.Ground.phase }, { on := 11, ground := Go.Ground.phase }], guard := none }, { dst := none, op := Go.Op.store 22 (Go.Operand.tmp 56) (Go.Operand.tmp 55), type := 0, pos := "more.go:48", after := #[{ on := 12, ground := Go.Ground.data }, { on := 11, ground := Go.Ground.data }, { on := 11, ground := Go.Ground.chain }, { on := 0, ground := Go.Ground.phase }, { on := 1, ground := Go.Ground.phase }, { on := 2, ground := Go.Ground.phase }, { on := 3, ground := Go.Ground.phase }, { on := 4, ground := Go.Ground.phase }, { on := 5, ground := Go.Ground.phase }, { on := 6, ground := Go.Ground.phase }, { on := 7, ground := Go.Ground.phase }, { on := 8, ground := Go.Ground.phase }, { on := 9, ground := Go.Ground.phase }, { on := 10, ground := Go.Ground.phase }, { on := 11, ground := Go.Ground.phase }], guard := none }] : Array Oper).toList.dropLast vs a0 = fr at *
    clear h11 h12 hv hQ
    unfold slot at q11 q12
    refine ⟨rfl, ?_⟩
    unfold Oper.wp
    go_simp
    exact hq
set_option maxRecDepth 100000 in
set_option maxHeartbeats 4000000 in
/-- Region 16. -/
theorem cut_16 {Q : Exit → Act → World → Prop} (a0 : Act) (w : World) (gx gy n c i lo : Nat) (A : Option Addr) (rows : List Value) (blk : Array Value) (hs : a0.tmps.size = 136)
    (k3 : slot a0 3 = .pointer (some ⟨gx, 0, none⟩)) (kx : slot a0 15 = .int .i64 (i : Int)) (ky : slot a0 11 = .pointer (some ⟨gy, 0, none⟩))
    (f0 : w.cell? ⟨gx, 5, none⟩ = some (.slice A n c)) (hgx : gx < w.heap.size) (hrd : Rd w lo 2 A n rows) (hlo : lo ≤ w.heap.size) (hin : i < n) (hnc : n ≤ c) (hc : c ≤ 9223372036854775807) (hn : n ≤ 100)
    (one : ∀ x ∈ rows, x.oneCell' = true) (hy : Blk w gy 26 blk) (hyb : ∃ v, blk[5]? = some v)
    (hQ : ∀ (vs : Tmp → Value) (w' : World) (A' : Option Addr) (c' : Nat), Grew w w' → w'.ownsRow w.heap.size 44 2 (.slice A' (i + (n - (i + 1))) c') (i + (n - (i + 1))) (rows.take (i * 2) ++ rows.drop ((i + 1) * 2)) →
      Q .normal (putsOf (#[{ dst := some 66, op := Go.Op.buildSlice 23 0 #[], type := 23, pos := "more.go:52", after := #[], guard := none }, { dst := some 67, op := Go.Op.fieldAddr 26 (Go.Operand.tmp 3) 5, type := 0, pos := "more.go:52", after := #[], guard := none }, { dst := some 68, op := Go.Op.load 23 (Go.Operand.tmp 67), type := 23, pos := "more.go:52", after := #[{ on := 1, ground := Go.Ground.data }], guard := none }, { dst := some 69, op := Go.Op.move (Go.Operand.tmp 15), type := 3, pos := "more.go:52", after := #[], guard := none }, { dst := some 70, op := Go.Op.slice 23 (Go.Operand.tmp 68) none (some (Go.Operand.tmp 69)) none, type := 23, pos := "more.go:52", after := #[{ on := 2, ground := Go.Ground.data }, { on := 3, ground := Go.Ground.data }], guard := none }, { dst := some 71, op := Go.Op.call { callee := Go.Callee.builtin Go.Builtin.append, args := #[Go.Operand.tmp 66, Go.Operand.tmp 70], argTypes := #[23, 23] }, type := 23, pos := "more.go:52", after := #[{ on := 0, ground := Go.Ground.data }, { on := 4, ground := Go.Ground.data }], guard := none }, { dst := some 72, op := Go.Op.fieldAddr 26 (Go.Operand.tmp 3) 5, type := 0, pos := "more.go:52", after := #[], guard := none }, { dst := some 73, op := Go.Op.load 23 (Go.Operand.tmp 72), type := 23, pos := "more.go:52", after := #[{ on := 6, ground := Go.Ground.data }], guard := none }, { dst := some 74, op := Go.Op.move (Go.Operand.tmp 15), type := 3, pos := "more.go:52", after := #[], guard := none }, { dst := some 75, op := Go.Op.binOp Go.BinOp.add 3 (Go.Operand.tmp 74) (Go.Operand.const (Go.Value.int Go.IntKind.i64 1)) 3, type := 3, pos := "more.go:52", after := #[{ on := 8, ground := Go.Ground.data }], guard := none }, { dst := some 76, op := Go.Op.slice 23 (Go.Operand.tmp 73) (some (Go.Operand.tmp 75)) none none, type := 23, pos := "more.go:52", after := #[{ on := 7, ground := Go.Ground.data }, { on := 9, ground := Go.Ground.data }], guard := none }, { dst := some 77, op := Go.Op.call { callee := Go.Callee.builtin Go.Builtin.append, args := #[Go.Operand.tmp 71, Go.Operand.tmp 76], argTypes := #[23, 23] }, type := 23, pos := "more.go:52", after := #[{ on := 5, ground := Go.Ground.data }, { on := 10, ground := Go.Ground.data }, { on := 5, ground := Go.Ground.chain }], guard := none }, { dst := some 78, op := Go.Op.fieldAddr 26 (Go.Operand.tmp 11) 5, type := 0, pos := "more.go:52", after := #[{ on := 0, ground := Go.Ground.phase }, { on := 1, ground := Go.Ground.phase }, { on := 2, ground := Go.Ground.phase }, { on := 3, ground := Go.Ground.phase }, { on := 4, ground := Go.Ground.phase }, { on := 5, ground := Go.Ground.phase }, { on := 6, ground := Go.Ground.phase }, { on := 7, ground := Go.Ground.phase }, { on := 8, ground := Go.Ground.phase }, { on := 9, ground := Go.Ground.phase }, { on := 10, ground := Go.Ground.phase }, { on := 11, ground := Go.Ground.phase }], guard := none }, { dst := none, op := Go.Op.store 23 (Go.Operand.tmp 78) (Go.Operand.tmp 77), type := 0, pos := "more.go:52", after := #[{ on := 12, ground := Go.Ground.data }, { on := 11, ground := Go.Ground.data }, { on := 11, ground := Go.Ground.chain }, { on := 0, ground := Go.Ground.phase }, { on := 1, ground := Go.Ground.phase }, { on := 2, ground := Go.Ground.phase }, { on := 3, ground := Go.Ground.phase }, { on := 4, ground := Go.Ground.phase }, { on := 5, ground := Go.Ground.phase }, { on := 6, ground := Go.Ground.phase }, { on := 7, ground := Go.Ground.phase }, { on := 8, ground := Go.Ground.phase }, { on := 9, ground := Go.Ground.phase }, { on := 10, ground := Go.Ground.phase }, { on := 11, ground := Go.Ground.phase }], guard := none }] : Array Oper).toList.dropLast vs a0) (w'.setCell ⟨gy, 5, none⟩ (.slice A' (i + (n - (i + 1))) c'))) :
    (Code.region 16 #[{ dst := some 66, op := Go.Op.buildSlice 23 0 #[], type := 23, pos := "more.go:52", after := #[], guard := none }, { dst := some 67, op := Go.Op.fieldAddr 26 (Go.Operand.tmp 3) 5, type := 0, pos := "more.go:52", after := #[], guard := none }, { dst := some 68, op := Go.Op.load 23 (Go.Operand.tmp 67), type := 23, pos := "more.go:52", after := #[{ on := 1, ground := Go.Ground.data }], guard := none }, { dst := some 69, op := Go.Op.move (Go.Operand.tmp 15), type := 3, pos := "more.go:52", after := #[], guard := none }, { dst := some 70, op := Go.Op.slice 23 (Go.Operand.tmp 68) none (some (Go.Operand.tmp 69)) none, type := 23, pos := "more.go:52", after := #[{ on := 2, ground := Go.Ground.data }, { on := 3, ground := Go.Ground.data }], guard := none }, { dst := some 71, op := Go.Op.call { callee := Go.Callee.builtin Go.Builtin.append, args := #[Go.Operand.tmp 66, Go.Operand.tmp 70], argTypes := #[23, 23] }, type := 23, pos := "more.go:52", after := #[{ on := 0, ground := Go.Ground.data }, { on := 4, ground := Go.Ground.data }], guard := none }, { dst := some 72, op := Go.Op.fieldAddr 26 (Go.Operand.tmp 3) 5, type := 0, pos := "more.go:52", after := #[], guard := none }, { dst := some 73, op := Go.Op.load 23 (Go.Operand.tmp 72), type := 23, pos := "more.go:52", after := #[{ on := 6, ground := Go.Ground.data }], guard := none }, { dst := some 74, op := Go.Op.move (Go.Operand.tmp 15), type := 3, pos := "more.go:52", after := #[], guard := none }, { dst := some 75, op := Go.Op.binOp Go.BinOp.add 3 (Go.Operand.tmp 74) (Go.Operand.const (Go.Value.int Go.IntKind.i64 1)) 3, type := 3, pos := "more.go:52", after := #[{ on := 8, ground := Go.Ground.data }], guard := none }, { dst := some 76, op := Go.Op.slice 23 (Go.Operand.tmp 73) (some (Go.Operand.tmp 75)) none none, type := 23, pos := "more.go:52", after := #[{ on := 7, ground := Go.Ground.data }, { on := 9, ground := Go.Ground.data }], guard := none }, { dst := some 77, op := Go.Op.call { callee := Go.Callee.builtin Go.Builtin.append, args := #[Go.Operand.tmp 71, Go.Operand.tmp 76], argTypes := #[23, 23] }, type := 23, pos := "more.go:52", after := #[{ on := 5, ground := Go.Ground.data }, { on := 10, ground := Go.Ground.data }, { on := 5, ground := Go.Ground.chain }], guard := none }, { dst := some 78, op := Go.Op.fieldAddr 26 (Go.Operand.tmp 11) 5, type := 0, pos := "more.go:52", after := #[{ on := 0, ground := Go.Ground.phase }, { on := 1, ground := Go.Ground.phase }, { on := 2, ground := Go.Ground.phase }, { on := 3, ground := Go.Ground.phase }, { on := 4, ground := Go.Ground.phase }, { on := 5, ground := Go.Ground.phase }, { on := 6, ground := Go.Ground.phase }, { on := 7, ground := Go.Ground.phase }, { on := 8, ground := Go.Ground.phase }, { on := 9, ground := Go.Ground.phase }, { on := 10, ground := Go.Ground.phase }, { on := 11, ground := Go.Ground.phase }], guard := none }, { dst := none, op := Go.Op.store 23 (Go.Operand.tmp 78) (Go.Operand.tmp 77), type := 0, pos := "more.go:52", after := #[{ on := 12, ground := Go.Ground.data }, { on := 11, ground := Go.Ground.data }, { on := 11, ground := Go.Ground.chain }, { on := 0, ground := Go.Ground.phase }, { on := 1, ground := Go.Ground.phase }, { on := 2, ground := Go.Ground.phase }, { on := 3, ground := Go.Ground.phase }, { on := 4, ground := Go.Ground.phase }, { on := 5, ground := Go.Ground.phase }, { on := 6, ground := Go.Ground.phase }, { on := 7, ground := Go.Ground.phase }, { on := 8, ground := Go.Ground.phase }, { on := 9, ground := Go.Ground.phase }, { on := 10, ground := Go.Ground.phase }, { on := 11, ground := Go.Ground.phase }], guard := none }] true).wp Try.prog Q a0 w := by
  obtain ⟨i0, hi0, z0, z1, z2⟩ := info_parts open_info
  have hund := Try.underlying23
  have t6 : (.agg #[.int .i64 0, .int .i64 0] : Value).cells.size = 2 := rfl
  have hsl := fun w => run_from (P := Try.prog) 23 44 i0 2 hund hi0 z1 A n c (i + 1) .i64 (show i + 1 ≤ n by omega) w
  have hcut := fun w B (h : Rd w B 2 A n rows) => h.from_ (k := i + 1) (c := c) (by omega) (by omega)
  have b2 : IntKind.i64.wrap ((i : Int) + 1) = (i : Int) + 1 := by rw [IntKind.wrap_i64]; omega
  have hmax : n ≤ maxLen := by unfold maxLen; omega
  obtain ⟨A2, hA2⟩ : ∃ A2, cutAt A c 2 (i + 1) = A2 := ⟨_, rfl⟩
  obtain ⟨m2, hm2⟩ : ∃ m2, n - (i + 1) = m2 := ⟨_, rfl⟩
  obtain ⟨c2, hc2⟩ : ∃ c2, c - (i + 1) = c2 := ⟨_, rfl⟩
  rw [hA2, hm2, hc2] at hsl
  rw [hA2, hm2] at hcut
  rw [hm2] at hQ
  have hm2' : i + m2 < n := by omega
  clear hm2 hc2 hA2
  have o1 : ∀ x ∈ rows.take (i * 2), x.oneCell' = true := fun x hx => one x (List.mem_of_mem_take hx)
  have o2 : ∀ x ∈ rows.drop ((i + 1) * 2), x.oneCell' = true := fun x hx => one x (List.mem_of_mem_drop hx)
  refine wp_region_live2 (n := 136) (C := Grew w) (Γ := (Said3 66 71 77 (fun u w' => w'.ownsRow w.heap.size 44 2 u 0 []) (fun u w' => w'.ownsRow w.heap.size 44 2 u i (rows.take (i * 2))) (fun u w' => w'.ownsRow w.heap.size 44 2 u (i + m2) (rows.take (i * 2) ++ rows.drop ((i + 1) * 2))) (pickV [(67, .pointer (some ⟨gx, 5, none⟩)), (68, .slice A n c), (69, .int .i64 (i : Int)), (70, .slice A i c), (72, .pointer (some ⟨gx, 5, none⟩)), (73, .slice A n c), (74, .int .i64 (i : Int)), (75, .int .i64 ((i : Int) + 1)), (76, .slice A2 m2 c2), (78, .pointer (some ⟨gy, 5, none⟩))]))) rfl (by kernel_rfl) (by kernel_rfl) (by kernel_rfl) hs ⟨rfl, rfl, rfl, Nat.le_refl _, fun _ _ => rfl⟩ ⟨?_, ?_, ?_, ?_, ?_, ?_, ?_, ?_, ?_, ?_, ?_, ?_, ?_, trivial⟩ ?_
  · refine owedl_of rfl rfl fun fr w1 hC hK K hk => ?_
    have hsz : w.heap.size ≤ w1.heap.size := Below.size hC
    have hz := hk (.slice (some ⟨w1.heap.size, 0, none⟩) 0 0) (w1.alloc (.cells #[] 44)) (Below.trans hC (Below.alloc (Below.refl _ _) hsz _)) (said3_kept (not_lives (by kernel_rfl)) (not_lives (by kernel_rfl)) (not_lives (by kernel_rfl))) (said3_1 (World.ownsRow_made (e := 44) (size := 2) w1 #[] 0 hsz (by unfold maxLen; omega) rfl))
    clear hK hk
    unfold Oper.wp
    go_simp
    exact hz
  · refine owedl_val (.pointer (some ⟨gx, 5, none⟩)) rfl rfl (fun _ => (said3_v (by decide)).2 rfl) fun fr w1 hC hK => ?_
    have k3 : slot fr 3 = .pointer (some ⟨gx, 0, none⟩) := (known_out hK 3 (by kernel_rfl)).trans k3
    clear hK
    unfold slot at k3
    go_simp
  · refine owedl_val (.slice A n c) rfl rfl (fun _ => (said3_v (by decide)).2 rfl) fun fr w1 hC hK => ?_
    have g67 := un3_v (known_in hK 67 (by kernel_rfl)) (by decide)
    have k67 : slot fr 67 = .pointer (some ⟨gx, 5, none⟩) := g67
    clear g67
    clear hK
    unfold slot at k67
    have x0 := (Below.cell hC (p := ⟨gx, 5, none⟩) hgx).trans f0
    go_simp
  · exact owedl_move rfl rfl (.inl rfl) fun fr w1 _ hK => (said3_v (by decide)).2 ((known_out hK 15 (by kernel_rfl)).trans kx)
  · refine owedl_val (.slice A i c) rfl rfl (fun _ => (said3_v (by decide)).2 rfl) fun fr w1 hC hK => ?_
    have g68 := un3_v (known_in hK 68 (by kernel_rfl)) (by decide)
    have k68 : slot fr 68 = .slice A n c := g68
    clear g68
    have g69 := un3_v (known_in hK 69 (by kernel_rfl)) (by decide)
    have k69 : slot fr 69 = .int .i64 (i : Int) := g69
    clear g69
    clear hK
    unfold slot at k68 k69
    have b0 : ¬ c < i := by omega
    have b1 : (0 : Int) ≤ (i : Int) := by omega
    have b3 : (i : Int) ≤ (c : Int) := by omega
    go_simp
  · refine owedl_of rfl rfl fun fr w1 hC hK K hk => ?_
    have hsz : w.heap.size ≤ w1.heap.size := Below.size hC
    have hv := un3_1 (known_in hK 66 (by kernel_rfl))
    have g70 := un3_v (known_in hK 70 (by kernel_rfl)) (by decide)
    have k70 : slot fr 70 = .slice A i c := g70
    clear g70
    clear hK
    refine wp_append_rd (.tmp 66) (.tmp 70) 23 (by rfl) w.heap.size 44 i0 (.agg #[.int .i64 0, .int .i64 0]) 2 16 hund hi0 z0 z1 z2 t6 (by decide) (slot fr 66) 0 [] (eval_slot _ _) hv lo A i c (rows.take (i * 2)) ((eval_slot _ _).trans k70) ((hrd.below (Below.mono hC hlo)).take (by omega)) o1 (by unfold maxLen; omega) (by omega) hsz ?_
    intro v' w' hown hg
    refine hk v' w' (hC.grown hg hsz fun k hk' => (hv.lt k hk').1) (said3_kept (not_lives (by kernel_rfl)) (not_lives (by kernel_rfl)) (not_lives (by kernel_rfl))) (said3_2 (by decide) ?_)
    simpa only [Nat.zero_add, List.nil_append] using hown
  · refine owedl_val (.pointer (some ⟨gx, 5, none⟩)) rfl rfl (fun _ => (said3_v (by decide)).2 rfl) fun fr w1 hC hK => ?_
    have k3 : slot fr 3 = .pointer (some ⟨gx, 0, none⟩) := (known_out hK 3 (by kernel_rfl)).trans k3
    clear hK
    unfold slot at k3
    go_simp
  · refine owedl_val (.slice A n c) rfl rfl (fun _ => (said3_v (by decide)).2 rfl) fun fr w1 hC hK => ?_
    have g72 := un3_v (known_in hK 72 (by kernel_rfl)) (by decide)
    have k72 : slot fr 72 = .pointer (some ⟨gx, 5, none⟩) := g72
    clear g72
    clear hK
    unfold slot at k72
    have x0 := (Below.cell hC (p := ⟨gx, 5, none⟩) hgx).trans f0
    go_simp
  · exact owedl_move rfl rfl (.inl rfl) fun fr w1 _ hK => (said3_v (by decide)).2 ((known_out hK 15 (by kernel_rfl)).trans kx)
  · refine owedl_val (.int .i64 ((i : Int) + 1)) rfl rfl (fun _ => (said3_v (by decide)).2 rfl) fun fr w1 hC hK => ?_
    have g74 := un3_v (known_in hK 74 (by kernel_rfl)) (by decide)
    have k74 : slot fr 74 = .int .i64 (i : Int) := g74
    clear g74
    clear hK
    unfold slot at k74
    have b2' := b2
    go_simp
  · refine owedl_val (.slice A2 m2 c2) rfl rfl (fun _ => (said3_v (by decide)).2 rfl) fun fr w1 hC hK => ?_
    have g73 := un3_v (known_in hK 73 (by kernel_rfl)) (by decide)
    have k73 : slot fr 73 = .slice A n c := g73
    clear g73
    have g75 := un3_v (known_in hK 75 (by kernel_rfl)) (by decide)
    have k75 : slot fr 75 = .int .i64 ((i : Int) + 1) := g75
    clear g75
    clear hK
    unfold slot at k73 k75
    have h1 := hsl w1
    have h2 : (Instr.sliceAt 23 (.slice A n c) (some (.int .i64 ((i : Int) + 1))) none none).run Try.prog w1 = .ok (.slice A2 m2 c2) w1 := by simpa using h1
    clear h1
    go_simp
  · refine owedl_of rfl rfl fun fr w1 hC hK K hk => ?_
    have hsz : w.heap.size ≤ w1.heap.size := Below.size hC
    have hv := un3_2 (by decide) (known_in hK 71 (by kernel_rfl))
    have g76 := un3_v (known_in hK 76 (by kernel_rfl)) (by decide)
    have k76 : slot fr 76 = .slice A2 m2 c2 := g76
    clear g76
    clear hK
    refine wp_append_rd (.tmp 71) (.tmp 76) 23 (by rfl) w.heap.size 44 i0 (.agg #[.int .i64 0, .int .i64 0]) 2 16 hund hi0 z0 z1 z2 t6 (by decide) (slot fr 71) i (rows.take (i * 2)) (eval_slot _ _) hv lo A2 m2 c2 (rows.drop ((i + 1) * 2)) ((eval_slot _ _).trans k76) (hcut w1 lo (hrd.below (Below.mono hC hlo))) o2 (by unfold maxLen; omega) (by omega) hsz ?_
    intro v' w' hown hg
    refine hk v' w' (hC.grown hg hsz fun k hk' => (hv.lt k hk').1) (said3_kept (not_lives (by kernel_rfl)) (not_lives (by kernel_rfl)) (not_lives (by kernel_rfl))) (said3_3 (by decide) (by decide) ?_)
    simpa only [Nat.zero_add, List.nil_append] using hown
  · refine owedl_val (.pointer (some ⟨gy, 5, none⟩)) rfl rfl (fun _ => (said3_v (by decide)).2 rfl) fun fr w1 hC hK => ?_
    have k11 : slot fr 11 = .pointer (some ⟨gy, 0, none⟩) := (known_out hK 11 (by kernel_rfl)).trans ky
    clear hK
    unfold slot at k11
    go_simp
  · intro vs w' hC hgood
    have h11 : w'.ownsRow w.heap.size 44 2 (vs 77) (i + m2) _ := un3_3 (by decide) (by decide) (hgood 77 (by kernel_rfl))
    have g12 := un3_v (hgood 78 (by kernel_rfl)) (by decide)
    have h12 : vs 78 = .pointer (some ⟨gy, 5, none⟩) := g12
    clear g12
    clear hgood
    obtain ⟨A', c', hv, _, _⟩ := slice_of_own h11
    have hq := hQ vs w' A' c' hC (by rw [← hv]; exact h11)
    have hy' := hy.below hC hy.lt
    have fz := hy'.frozen 5
    obtain ⟨v0, hv0⟩ := hyb
    have fy := (hy'.cell 5).trans hv0
    have q11 : slot (putsOf (#[{ dst := some 66, op := Go.Op.buildSlice 23 0 #[], type := 23, pos := "more.go:52", after := #[], guard := none }, { dst := some 67, op := Go.Op.fieldAddr 26 (Go.Operand.tmp 3) 5, type := 0, pos := "more.go:52", after := #[], guard := none }, { dst := some 68, op := Go.Op.load 23 (Go.Operand.tmp 67), type := 23, pos := "more.go:52", after := #[{ on := 1, ground := Go.Ground.data }], guard := none }, { dst := some 69, op := Go.Op.move (Go.Operand.tmp 15), type := 3, pos := "more.go:52", after := #[], guard := none }, { dst := some 70, op := Go.Op.slice 23 (Go.Operand.tmp 68) none (some (Go.Operand.tmp 69)) none, type := 23, pos := "more.go:52", after := #[{ on := 2, ground := Go.Ground.data }, { on := 3, ground := Go.Ground.data }], guard := none }, { dst := some 71, op := Go.Op.call { callee := Go.Callee.builtin Go.Builtin.append, args := #[Go.Operand.tmp 66, Go.Operand.tmp 70], argTypes := #[23, 23] }, type := 23, pos := "more.go:52", after := #[{ on := 0, ground := Go.Ground.data }, { on := 4, ground := Go.Ground.data }], guard := none }, { dst := some 72, op := Go.Op.fieldAddr 26 (Go.Operand.tmp 3) 5, type := 0, pos := "more.go:52", after := #[], guard := none }, { dst := some 73, op := Go.Op.load 23 (Go.Operand.tmp 72), type := 23, pos := "more.go:52", after := #[{ on := 6, ground := Go.Ground.data }], guard := none }, { dst := some 74, op := Go.Op.move (Go.Operand.tmp 15), type := 3, pos := "more.go:52", after := #[], guard := none }, { dst := some 75, op := Go.Op.binOp Go.BinOp.add 3 (Go.Operand.tmp 74) (Go.Operand.const (Go.Value.int Go.IntKind.i64 1)) 3, type := 3, pos := "more.go:52", after := #[{ on := 8, ground := Go.Ground.data }], guard := none }, { dst := some 76, op := Go.Op.slice 23 (Go.Operand.tmp 73) (some (Go.Operand.tmp 75)) none none, type := 23, pos := "more.go:52", after := #[{ on := 7, ground := Go.Ground.data }, { on := 9, ground := Go.Ground.data }], guard := none }, { dst := some 77, op := Go.Op.call { callee := Go.Callee.builtin Go.Builtin.append, args := #[Go.Operand.tmp 71, Go.Operand.tmp 76], argTypes := #[23, 23] }, type := 23, pos := "more.go:52", after := #[{ on := 5, ground := Go.Ground.data }, { on := 10, ground := Go.Ground.data }, { on := 5, ground := Go.Ground.chain }], guard := none }, { dst := some 78, op := Go.Op.fieldAddr 26 (Go.Operand.tmp 11) 5, type := 0, pos := "more.go:52", after := #[{ on := 0, ground := Go.Ground.phase }, { on := 1, ground := Go.Ground.phase }, { on := 2, ground := Go.Ground.phase }, { on := 3, ground := Go.Ground.phase }, { on := 4, ground := Go.Ground.phase }, { on := 5, ground := Go.Ground.phase }, { on := 6, ground := Go.Ground.phase }, { on := 7, ground := Go.Ground.phase }, { on := 8, ground := Go.Ground.phase }, { on := 9, ground := Go.Ground.phase }, { on := 10, ground := Go.Ground.phase }, { on := 11, ground := Go.Ground.phase }], guard := none }, { dst := none, op := Go.Op.store 23 (Go.Operand.tmp 78) (Go.Operand.tmp 77), type := 0, pos := "more.go:52", after := #[{ on := 12, ground := Go.Ground.data }, { on := 11, ground := Go.Ground.data }, { on := 11, ground := Go.Ground.chain }, { on := 0, ground := Go.Ground.phase }, { on := 1, ground := Go.Ground.phase }, { on := 2, ground := Go.Ground.phase }, { on := 3, ground := Go.Ground.phase }, { on := 4, ground := Go.Ground.phase }, { on := 5, ground := Go.Ground.phase }, { on := 6, ground := Go.Ground.phase }, { on := 7, ground := Go.Ground.phase }, { on := 8, ground := Go.Ground.phase }, { on := 9, ground := Go.Ground.phase }, { on := 10, ground := Go.Ground.phase }, { on := 11, ground := Go.Ground.phase }], guard := none }] : Array Oper).toList.dropLast vs a0) 77 = .slice A' (i + m2) c' := (puts_in hs (by kernel_rfl)).trans hv
    have q12 : slot (putsOf (#[{ dst := some 66, op := Go.Op.buildSlice 23 0 #[], type := 23, pos := "more.go:52", after := #[], guard := none }, { dst := some 67, op := Go.Op.fieldAddr 26 (Go.Operand.tmp 3) 5, type := 0, pos := "more.go:52", after := #[], guard := none }, { dst := some 68, op := Go.Op.load 23 (Go.Operand.tmp 67), type := 23, pos := "more.go:52", after := #[{ on := 1, ground := Go.Ground.data }], guard := none }, { dst := some 69, op := Go.Op.move (Go.Operand.tmp 15), type := 3, pos := "more.go:52", after := #[], guard := none }, { dst := some 70, op := Go.Op.slice 23 (Go.Operand.tmp 68) none (some (Go.Operand.tmp 69)) none, type := 23, pos := "more.go:52", after := #[{ on := 2, ground := Go.Ground.data }, { on := 3, ground := Go.Ground.data }], guard := none }, { dst := some 71, op := Go.Op.call { callee := Go.Callee.builtin Go.Builtin.append, args := #[Go.Operand.tmp 66, Go.Operand.tmp 70], argTypes := #[23, 23] }, type := 23, pos := "more.go:52", after := #[{ on := 0, ground := Go.Ground.data }, { on := 4, ground := Go.Ground.data }], guard := none }, { dst := some 72, op := Go.Op.fieldAddr 26 (Go.Operand.tmp 3) 5, type := 0, pos := "more.go:52", after := #[], guard := none }, { dst := some 73, op := Go.Op.load 23 (Go.Operand.tmp 72), type := 23, pos := "more.go:52", after := #[{ on := 6, ground := Go.Ground.data }], guard := none }, { dst := some 74, op := Go.Op.move (Go.Operand.tmp 15), type := 3, pos := "more.go:52", after := #[], guard := none }, { dst := some 75, op := Go.Op.binOp Go.BinOp.add 3 (Go.Operand.tmp 74) (Go.Operand.const (Go.Value.int Go.IntKind.i64 1)) 3, type := 3, pos := "more.go:52", after := #[{ on := 8, ground := Go.Ground.data }], guard := none }, { dst := some 76, op := Go.Op.slice 23 (Go.Operand.tmp 73) (some (Go.Operand.tmp 75)) none none, type := 23, pos := "more.go:52", after := #[{ on := 7, ground := Go.Ground.data }, { on := 9, ground := Go.Ground.data }], guard := none }, { dst := some 77, op := Go.Op.call { callee := Go.Callee.builtin Go.Builtin.append, args := #[Go.Operand.tmp 71, Go.Operand.tmp 76], argTypes := #[23, 23] }, type := 23, pos := "more.go:52", after := #[{ on := 5, ground := Go.Ground.data }, { on := 10, ground := Go.Ground.data }, { on := 5, ground := Go.Ground.chain }], guard := none }, { dst := some 78, op := Go.Op.fieldAddr 26 (Go.Operand.tmp 11) 5, type := 0, pos := "more.go:52", after := #[{ on := 0, ground := Go.Ground.phase }, { on := 1, ground := Go.Ground.phase }, { on := 2, ground := Go.Ground.phase }, { on := 3, ground := Go.Ground.phase }, { on := 4, ground := Go.Ground.phase }, { on := 5, ground := Go.Ground.phase }, { on := 6, ground := Go.Ground.phase }, { on := 7, ground := Go.Ground.phase }, { on := 8, ground := Go.Ground.phase }, { on := 9, ground := Go.Ground.phase }, { on := 10, ground := Go.Ground.phase }, { on := 11, ground := Go.Ground.phase }], guard := none }, { dst := none, op := Go.Op.store 23 (Go.Operand.tmp 78) (Go.Operand.tmp 77), type := 0, pos := "more.go:52", after := #[{ on := 12, ground := Go.Ground.data }, { on := 11, ground := Go.Ground.data }, { on := 11, ground := Go.Ground.chain }, { on := 0, ground := Go.Ground.phase }, { on := 1, ground := Go.Ground.phase }, { on := 2, ground := Go.Ground.phase }, { on := 3, ground := Go.Ground.phase }, { on := 4, ground := Go.Ground.phase }, { on := 5, ground := Go.Ground.phase }, { on := 6, ground := Go.Ground.phase }, { on := 7, ground := Go.Ground.phase }, { on := 8, ground := Go.Ground.phase }, { on := 9, ground := Go.Ground.phase }, { on := 10, ground := Go.Ground.phase }, { on := 11, ground := Go.Ground.phase }], guard := none }] : Array Oper).toList.dropLast vs a0) 78 = .pointer (some ⟨gy, 5, none⟩) := (puts_in hs (by kernel_rfl)).trans h12
    generalize putsOf (#[{ dst := some 66, op := Go.Op.buildSlice 23 0 #[], type := 23, pos := "more.go:52", after := #[], guard := none }, { dst := some 67, op := Go.Op.fieldAddr 26 (Go.Operand.tmp 3) 5, type := 0, pos := "more.go:52", after := #[], guard := none }, { dst := some 68, op := Go.Op.load 23 (Go.Operand.tmp 67), type := 23, pos := "more.go:52", after := #[{ on := 1, ground := Go.Ground.data }], guard := none }, { dst := some 69, op := Go.Op.move (Go.Operand.tmp 15), type := 3, pos := "more.go:52", after := #[], guard := none }, { dst := some 70, op := Go.Op.slice 23 (Go.Operand.tmp 68) none (some (Go.Operand.tmp 69)) none, type := 23, pos := "more.go:52", after := #[{ on := 2, ground := Go.Ground.data }, { on := 3, ground := Go.Ground.data }], guard := none }, { dst := some 71, op := Go.Op.call { callee := Go.Callee.builtin Go.Builtin.append, args := #[Go.Operand.tmp 66, Go.Operand.tmp 70], argTypes := #[23, 23] }, type := 23, pos := "more.go:52", after := #[{ on := 0, ground := Go.Ground.data }, { on := 4, ground := Go.Ground.data }], guard := none }, { dst := some 72, op := Go.Op.fieldAddr 26 (Go.Operand.tmp 3) 5, type := 0, pos := "more.go:52", after := #[], guard := none }, { dst := some 73, op := Go.Op.load 23 (Go.Operand.tmp 72), type := 23, pos := "more.go:52", after := #[{ on := 6, ground := Go.Ground.data }], guard := none }, { dst := some 74, op := Go.Op.move (Go.Operand.tmp 15), type := 3, pos := "more.go:52", after := #[], guard := none }, { dst := some 75, op := Go.Op.binOp Go.BinOp.add 3 (Go.Operand.tmp 74) (Go.Operand.const (Go.Value.int Go.IntKind.i64 1)) 3, type := 3, pos := "more.go:52", after := #[{ on := 8, ground := Go.Ground.data }], guard := none }, { dst := some 76, op := Go.Op.slice 23 (Go.Operand.tmp 73) (some (Go.Operand.tmp 75)) none none, type := 23, pos := "more.go:52", after := #[{ on := 7, ground := Go.Ground.data }, { on := 9, ground := Go.Ground.data }], guard := none }, { dst := some 77, op := Go.Op.call { callee := Go.Callee.builtin Go.Builtin.append, args := #[Go.Operand.tmp 71, Go.Operand.tmp 76], argTypes := #[23, 23] }, type := 23, pos := "more.go:52", after := #[{ on := 5, ground := Go.Ground.data }, { on := 10, ground := Go.Ground.data }, { on := 5, ground := Go.Ground.chain }], guard := none }, { dst := some 78, op := Go.Op.fieldAddr 26 (Go.Operand.tmp 11) 5, type := 0, pos := "more.go:52", after := #[{ on := 0, ground := Go.Ground.phase }, { on := 1, ground := Go.Ground.phase }, { on := 2, ground := Go.Ground.phase }, { on := 3, ground := Go.Ground.phase }, { on := 4, ground := Go.Ground.phase }, { on := 5, ground := Go.Ground.phase }, { on := 6, ground := Go.Ground.phase }, { on := 7, ground := Go.Ground.phase }, { on := 8, ground := Go.Ground.phase }, { on := 9, ground := Go.Ground.phase }, { on := 10, ground := Go.Ground.phase }, { on := 11, ground := Go.Ground.phase }], guard := none }, { dst := none, op := Go.Op.store 23 (Go.Operand.tmp 78) (Go.Operand.tmp 77), type := 0, pos := "more.go:52", after := #[{ on := 12, ground := Go.Ground.data }, { on := 11, ground := Go.Ground.data }, { on := 11, ground := Go.Ground.chain }, { on := 0, ground := Go.Ground.phase }, { on := 1, ground := Go.Ground.phase }, { on := 2, ground := Go.Ground.phase }, { on := 3, ground := Go.Ground.phase }, { on := 4, ground := Go.Ground.phase }, { on := 5, ground := Go.Ground.phase }, { on := 6, ground := Go.Ground.phase }, { on := 7, ground := Go.Ground.phase }, { on := 8, ground := Go.Ground.phase }, { on := 9, ground := Go.Ground.phase }, { on := 10, ground := Go.Ground.phase }, { on := 11, ground := Go.Ground.phase }], guard := none }] : Array Oper).toList.dropLast vs a0 = fr at *
    clear h11 h12 hv hQ
    unfold slot at q11 q12
    refine ⟨rfl, ?_⟩
    unfold Oper.wp
    go_simp
    exact hq
set_option maxRecDepth 100000 in
set_option maxHeartbeats 4000000 in
/-- Region 19. -/
theorem cut_19 {Q : Exit → Act → World → Prop} (a0 : Act) (w : World) (gx gy n c i lo : Nat) (A : Option Addr) (rows : List Value) (blk : Array Value) (hs : a0.tmps.size = 136)
    (k3 : slot a0 3 = .pointer (some ⟨gx, 0, none⟩)) (kx : slot a0 16 = .int .i64 (i : Int)) (ky : slot a0 12 = .pointer (some ⟨gy, 0, none⟩))
    (f0 : w.cell? ⟨gx, 6, none⟩ = some (.slice A n c)) (hgx : gx < w.heap.size) (hrd : Rd w lo 5 A n rows) (hlo : lo ≤ w.heap.size) (hin : i < n) (hnc : n ≤ c) (hc : c ≤ 9223372036854775807) (hn : n ≤ 100)
    (one : ∀ x ∈ rows, x.oneCell' = true) (hy : Blk w gy 26 blk) (hyb : ∃ v, blk[6]? = some v)
    (hQ : ∀ (vs : Tmp → Value) (w' : World) (A' : Option Addr) (c' : Nat), Grew w w' → w'.ownsRow w.heap.size 38 5 (.slice A' (i + (n - (i + 1))) c') (i + (n - (i + 1))) (rows.take (i * 5) ++ rows.drop ((i + 1) * 5)) →
      Q .normal (putsOf (#[{ dst := some 88, op := Go.Op.buildSlice 24 0 #[], type := 24, pos := "more.go:56", after := #[], guard := none }, { dst := some 89, op := Go.Op.fieldAddr 26 (Go.Operand.tmp 3) 6, type := 0, pos := "more.go:56", after := #[], guard := none }, { dst := some 90, op := Go.Op.load 24 (Go.Operand.tmp 89), type := 24, pos := "more.go:56", after := #[{ on := 1, ground := Go.Ground.data }], guard := none }, { dst := some 91, op := Go.Op.move (Go.Operand.tmp 16), type := 3, pos := "more.go:56", after := #[], guard := none }, { dst := some 92, op := Go.Op.slice 24 (Go.Operand.tmp 90) none (some (Go.Operand.tmp 91)) none, type := 24, pos := "more.go:56", after := #[{ on := 2, ground := Go.Ground.data }, { on := 3, ground := Go.Ground.data }], guard := none }, { dst := some 93, op := Go.Op.call { callee := Go.Callee.builtin Go.Builtin.append, args := #[Go.Operand.tmp 88, Go.Operand.tmp 92], argTypes := #[24, 24] }, type := 24, pos := "more.go:56", after := #[{ on := 0, ground := Go.Ground.data }, { on := 4, ground := Go.Ground.data }], guard := none }, { dst := some 94, op := Go.Op.fieldAddr 26 (Go.Operand.tmp 3) 6, type := 0, pos := "more.go:56", after := #[], guard := none }, { dst := some 95, op := Go.Op.load 24 (Go.Operand.tmp 94), type := 24, pos := "more.go:56", after := #[{ on := 6, ground := Go.Ground.data }], guard := none }, { dst := some 96, op := Go.Op.move (Go.Operand.tmp 16), type := 3, pos := "more.go:56", after := #[], guard := none }, { dst := some 97, op := Go.Op.binOp Go.BinOp.add 3 (Go.Operand.tmp 96) (Go.Operand.const (Go.Value.int Go.IntKind.i64 1)) 3, type := 3, pos := "more.go:56", after := #[{ on := 8, ground := Go.Ground.data }], guard := none }, { dst := some 98, op := Go.Op.slice 24 (Go.Operand.tmp 95) (some (Go.Operand.tmp 97)) none none, type := 24, pos := "more.go:56", after := #[{ on := 7, ground := Go.Ground.data }, { on := 9, ground := Go.Ground.data }], guard := none }, { dst := some 99, op := Go.Op.call { callee := Go.Callee.builtin Go.Builtin.append, args := #[Go.Operand.tmp 93, Go.Operand.tmp 98], argTypes := #[24, 24] }, type := 24, pos := "more.go:56", after := #[{ on := 5, ground := Go.Ground.data }, { on := 10, ground := Go.Ground.data }, { on := 5, ground := Go.Ground.chain }], guard := none }, { dst := some 100, op := Go.Op.fieldAddr 26 (Go.Operand.tmp 12) 6, type := 0, pos := "more.go:56", after := #[{ on := 0, ground := Go.Ground.phase }, { on := 1, ground := Go.Ground.phase }, { on := 2, ground := Go.Ground.phase }, { on := 3, ground := Go.Ground.phase }, { on := 4, ground := Go.Ground.phase }, { on := 5, ground := Go.Ground.phase }, { on := 6, ground := Go.Ground.phase }, { on := 7, ground := Go.Ground.phase }, { on := 8, ground := Go.Ground.phase }, { on := 9, ground := Go.Ground.phase }, { on := 10, ground := Go.Ground.phase }, { on := 11, ground := Go.Ground.phase }], guard := none }, { dst := none, op := Go.Op.store 24 (Go.Operand.tmp 100) (Go.Operand.tmp 99), type := 0, pos := "more.go:56", after := #[{ on := 12, ground := Go.Ground.data }, { on := 11, ground := Go.Ground.data }, { on := 11, ground := Go.Ground.chain }, { on := 0, ground := Go.Ground.phase }, { on := 1, ground := Go.Ground.phase }, { on := 2, ground := Go.Ground.phase }, { on := 3, ground := Go.Ground.phase }, { on := 4, ground := Go.Ground.phase }, { on := 5, ground := Go.Ground.phase }, { on := 6, ground := Go.Ground.phase }, { on := 7, ground := Go.Ground.phase }, { on := 8, ground := Go.Ground.phase }, { on := 9, ground := Go.Ground.phase }, { on := 10, ground := Go.Ground.phase }, { on := 11, ground := Go.Ground.phase }], guard := none }] : Array Oper).toList.dropLast vs a0) (w'.setCell ⟨gy, 6, none⟩ (.slice A' (i + (n - (i + 1))) c'))) :
    (Code.region 19 #[{ dst := some 88, op := Go.Op.buildSlice 24 0 #[], type := 24, pos := "more.go:56", after := #[], guard := none }, { dst := some 89, op := Go.Op.fieldAddr 26 (Go.Operand.tmp 3) 6, type := 0, pos := "more.go:56", after := #[], guard := none }, { dst := some 90, op := Go.Op.load 24 (Go.Operand.tmp 89), type := 24, pos := "more.go:56", after := #[{ on := 1, ground := Go.Ground.data }], guard := none }, { dst := some 91, op := Go.Op.move (Go.Operand.tmp 16), type := 3, pos := "more.go:56", after := #[], guard := none }, { dst := some 92, op := Go.Op.slice 24 (Go.Operand.tmp 90) none (some (Go.Operand.tmp 91)) none, type := 24, pos := "more.go:56", after := #[{ on := 2, ground := Go.Ground.data }, { on := 3, ground := Go.Ground.data }], guard := none }, { dst := some 93, op := Go.Op.call { callee := Go.Callee.builtin Go.Builtin.append, args := #[Go.Operand.tmp 88, Go.Operand.tmp 92], argTypes := #[24, 24] }, type := 24, pos := "more.go:56", after := #[{ on := 0, ground := Go.Ground.data }, { on := 4, ground := Go.Ground.data }], guard := none }, { dst := some 94, op := Go.Op.fieldAddr 26 (Go.Operand.tmp 3) 6, type := 0, pos := "more.go:56", after := #[], guard := none }, { dst := some 95, op := Go.Op.load 24 (Go.Operand.tmp 94), type := 24, pos := "more.go:56", after := #[{ on := 6, ground := Go.Ground.data }], guard := none }, { dst := some 96, op := Go.Op.move (Go.Operand.tmp 16), type := 3, pos := "more.go:56", after := #[], guard := none }, { dst := some 97, op := Go.Op.binOp Go.BinOp.add 3 (Go.Operand.tmp 96) (Go.Operand.const (Go.Value.int Go.IntKind.i64 1)) 3, type := 3, pos := "more.go:56", after := #[{ on := 8, ground := Go.Ground.data }], guard := none }, { dst := some 98, op := Go.Op.slice 24 (Go.Operand.tmp 95) (some (Go.Operand.tmp 97)) none none, type := 24, pos := "more.go:56", after := #[{ on := 7, ground := Go.Ground.data }, { on := 9, ground := Go.Ground.data }], guard := none }, { dst := some 99, op := Go.Op.call { callee := Go.Callee.builtin Go.Builtin.append, args := #[Go.Operand.tmp 93, Go.Operand.tmp 98], argTypes := #[24, 24] }, type := 24, pos := "more.go:56", after := #[{ on := 5, ground := Go.Ground.data }, { on := 10, ground := Go.Ground.data }, { on := 5, ground := Go.Ground.chain }], guard := none }, { dst := some 100, op := Go.Op.fieldAddr 26 (Go.Operand.tmp 12) 6, type := 0, pos := "more.go:56", after := #[{ on := 0, ground := Go.Ground.phase }, { on := 1, ground := Go.Ground.phase }, { on := 2, ground := Go.Ground.phase }, { on := 3, ground := Go.Ground.phase }, { on := 4, ground := Go.Ground.phase }, { on := 5, ground := Go.Ground.phase }, { on := 6, ground := Go.Ground.phase }, { on := 7, ground := Go.Ground.phase }, { on := 8, ground := Go.Ground.phase }, { on := 9, ground := Go.Ground.phase }, { on := 10, ground := Go.Ground.phase }, { on := 11, ground := Go.Ground.phase }], guard := none }, { dst := none, op := Go.Op.store 24 (Go.Operand.tmp 100) (Go.Operand.tmp 99), type := 0, pos := "more.go:56", after := #[{ on := 12, ground := Go.Ground.data }, { on := 11, ground := Go.Ground.data }, { on := 11, ground := Go.Ground.chain }, { on := 0, ground := Go.Ground.phase }, { on := 1, ground := Go.Ground.phase }, { on := 2, ground := Go.Ground.phase }, { on := 3, ground := Go.Ground.phase }, { on := 4, ground := Go.Ground.phase }, { on := 5, ground := Go.Ground.phase }, { on := 6, ground := Go.Ground.phase }, { on := 7, ground := Go.Ground.phase }, { on := 8, ground := Go.Ground.phase }, { on := 9, ground := Go.Ground.phase }, { on := 10, ground := Go.Ground.phase }, { on := 11, ground := Go.Ground.phase }], guard := none }] true).wp Try.prog Q a0 w := by
  obtain ⟨i0, hi0, z0, z1, z2⟩ := info_parts snap_info
  have hund := Try.underlying24
  have t6 : (.agg #[.int .i64 0, .int .i64 0, .slice none 0 0, .bool false, .string (strOf [])] : Value).cells.size = 5 := rfl
  have hsl := fun w => run_from (P := Try.prog) 24 38 i0 5 hund hi0 z1 A n c (i + 1) .i64 (show i + 1 ≤ n by omega) w
  have hcut := fun w B (h : Rd w B 5 A n rows) => h.from_ (k := i + 1) (c := c) (by omega) (by omega)
  have b2 : IntKind.i64.wrap ((i : Int) + 1) = (i : Int) + 1 := by rw [IntKind.wrap_i64]; omega
  have hmax : n ≤ maxLen := by unfold maxLen; omega
  obtain ⟨A2, hA2⟩ : ∃ A2, cutAt A c 5 (i + 1) = A2 := ⟨_, rfl⟩
  obtain ⟨m2, hm2⟩ : ∃ m2, n - (i + 1) = m2 := ⟨_, rfl⟩
  obtain ⟨c2, hc2⟩ : ∃ c2, c - (i + 1) = c2 := ⟨_, rfl⟩
  rw [hA2, hm2, hc2] at hsl
  rw [hA2, hm2] at hcut
  rw [hm2] at hQ
  have hm2' : i + m2 < n := by omega
  clear hm2 hc2 hA2
  have o1 : ∀ x ∈ rows.take (i * 5), x.oneCell' = true := fun x hx => one x (List.mem_of_mem_take hx)
  have o2 : ∀ x ∈ rows.drop ((i + 1) * 5), x.oneCell' = true := fun x hx => one x (List.mem_of_mem_drop hx)
  refine wp_region_live2 (n := 136) (C := Grew w) (Γ := (Said3 88 93 99 (fun u w' => w'.ownsRow w.heap.size 38 5 u 0 []) (fun u w' => w'.ownsRow w.heap.size 38 5 u i (rows.take (i * 5))) (fun u w' => w'.ownsRow w.heap.size 38 5 u (i + m2) (rows.take (i * 5) ++ rows.drop ((i + 1) * 5))) (pickV [(89, .pointer (some ⟨gx, 6, none⟩)), (90, .slice A n c), (91, .int .i64 (i : Int)), (92, .slice A i c), (94, .pointer (some ⟨gx, 6, none⟩)), (95, .slice A n c), (96, .int .i64 (i : Int)), (97, .int .i64 ((i : Int) + 1)), (98, .slice A2 m2 c2), (100, .pointer (some ⟨gy, 6, none⟩))]))) rfl (by kernel_rfl) (by kernel_rfl) (by kernel_rfl) hs ⟨rfl, rfl, rfl, Nat.le_refl _, fun _ _ => rfl⟩ ⟨?_, ?_, ?_, ?_, ?_, ?_, ?_, ?_, ?_, ?_, ?_, ?_, ?_, trivial⟩ ?_
  · refine owedl_of rfl rfl fun fr w1 hC hK K hk => ?_
    have hsz : w.heap.size ≤ w1.heap.size := Below.size hC
    have hz := hk (.slice (some ⟨w1.heap.size, 0, none⟩) 0 0) (w1.alloc (.cells #[] 38)) (Below.trans hC (Below.alloc (Below.refl _ _) hsz _)) (said3_kept (not_lives (by kernel_rfl)) (not_lives (by kernel_rfl)) (not_lives (by kernel_rfl))) (said3_1 (World.ownsRow_made (e := 38) (size := 5) w1 #[] 0 hsz (by unfold maxLen; omega) rfl))
    clear hK hk
    unfold Oper.wp
    go_simp
    exact hz
  · refine owedl_val (.pointer (some ⟨gx, 6, none⟩)) rfl rfl (fun _ => (said3_v (by decide)).2 rfl) fun fr w1 hC hK => ?_
    have k3 : slot fr 3 = .pointer (some ⟨gx, 0, none⟩) := (known_out hK 3 (by kernel_rfl)).trans k3
    clear hK
    unfold slot at k3
    go_simp
  · refine owedl_val (.slice A n c) rfl rfl (fun _ => (said3_v (by decide)).2 rfl) fun fr w1 hC hK => ?_
    have g89 := un3_v (known_in hK 89 (by kernel_rfl)) (by decide)
    have k89 : slot fr 89 = .pointer (some ⟨gx, 6, none⟩) := g89
    clear g89
    clear hK
    unfold slot at k89
    have x0 := (Below.cell hC (p := ⟨gx, 6, none⟩) hgx).trans f0
    go_simp
  · exact owedl_move rfl rfl (.inl rfl) fun fr w1 _ hK => (said3_v (by decide)).2 ((known_out hK 16 (by kernel_rfl)).trans kx)
  · refine owedl_val (.slice A i c) rfl rfl (fun _ => (said3_v (by decide)).2 rfl) fun fr w1 hC hK => ?_
    have g90 := un3_v (known_in hK 90 (by kernel_rfl)) (by decide)
    have k90 : slot fr 90 = .slice A n c := g90
    clear g90
    have g91 := un3_v (known_in hK 91 (by kernel_rfl)) (by decide)
    have k91 : slot fr 91 = .int .i64 (i : Int) := g91
    clear g91
    clear hK
    unfold slot at k90 k91
    have b0 : ¬ c < i := by omega
    have b1 : (0 : Int) ≤ (i : Int) := by omega
    have b3 : (i : Int) ≤ (c : Int) := by omega
    go_simp
  · refine owedl_of rfl rfl fun fr w1 hC hK K hk => ?_
    have hsz : w.heap.size ≤ w1.heap.size := Below.size hC
    have hv := un3_1 (known_in hK 88 (by kernel_rfl))
    have g92 := un3_v (known_in hK 92 (by kernel_rfl)) (by decide)
    have k92 : slot fr 92 = .slice A i c := g92
    clear g92
    clear hK
    refine wp_append_rd (.tmp 88) (.tmp 92) 24 (by rfl) w.heap.size 38 i0 (.agg #[.int .i64 0, .int .i64 0, .slice none 0 0, .bool false, .string (strOf [])]) 5 64 hund hi0 z0 z1 z2 t6 (by decide) (slot fr 88) 0 [] (eval_slot _ _) hv lo A i c (rows.take (i * 5)) ((eval_slot _ _).trans k92) ((hrd.below (Below.mono hC hlo)).take (by omega)) o1 (by unfold maxLen; omega) (by omega) hsz ?_
    intro v' w' hown hg
    refine hk v' w' (hC.grown hg hsz fun k hk' => (hv.lt k hk').1) (said3_kept (not_lives (by kernel_rfl)) (not_lives (by kernel_rfl)) (not_lives (by kernel_rfl))) (said3_2 (by decide) ?_)
    simpa only [Nat.zero_add, List.nil_append] using hown
  · refine owedl_val (.pointer (some ⟨gx, 6, none⟩)) rfl rfl (fun _ => (said3_v (by decide)).2 rfl) fun fr w1 hC hK => ?_
    have k3 : slot fr 3 = .pointer (some ⟨gx, 0, none⟩) := (known_out hK 3 (by kernel_rfl)).trans k3
    clear hK
    unfold slot at k3
    go_simp
  · refine owedl_val (.slice A n c) rfl rfl (fun _ => (said3_v (by decide)).2 rfl) fun fr w1 hC hK => ?_
    have g94 := un3_v (known_in hK 94 (by kernel_rfl)) (by decide)
    have k94 : slot fr 94 = .pointer (some ⟨gx, 6, none⟩) := g94
    clear g94
    clear hK
    unfold slot at k94
    have x0 := (Below.cell hC (p := ⟨gx, 6, none⟩) hgx).trans f0
    go_simp
  · exact owedl_move rfl rfl (.inl rfl) fun fr w1 _ hK => (said3_v (by decide)).2 ((known_out hK 16 (by kernel_rfl)).trans kx)
  · refine owedl_val (.int .i64 ((i : Int) + 1)) rfl rfl (fun _ => (said3_v (by decide)).2 rfl) fun fr w1 hC hK => ?_
    have g96 := un3_v (known_in hK 96 (by kernel_rfl)) (by decide)
    have k96 : slot fr 96 = .int .i64 (i : Int) := g96
    clear g96
    clear hK
    unfold slot at k96
    have b2' := b2
    go_simp
  · refine owedl_val (.slice A2 m2 c2) rfl rfl (fun _ => (said3_v (by decide)).2 rfl) fun fr w1 hC hK => ?_
    have g95 := un3_v (known_in hK 95 (by kernel_rfl)) (by decide)
    have k95 : slot fr 95 = .slice A n c := g95
    clear g95
    have g97 := un3_v (known_in hK 97 (by kernel_rfl)) (by decide)
    have k97 : slot fr 97 = .int .i64 ((i : Int) + 1) := g97
    clear g97
    clear hK
    unfold slot at k95 k97
    have h1 := hsl w1
    have h2 : (Instr.sliceAt 24 (.slice A n c) (some (.int .i64 ((i : Int) + 1))) none none).run Try.prog w1 = .ok (.slice A2 m2 c2) w1 := by simpa using h1
    clear h1
    go_simp
  · refine owedl_of rfl rfl fun fr w1 hC hK K hk => ?_
    have hsz : w.heap.size ≤ w1.heap.size := Below.size hC
    have hv := un3_2 (by decide) (known_in hK 93 (by kernel_rfl))
    have g98 := un3_v (known_in hK 98 (by kernel_rfl)) (by decide)
    have k98 : slot fr 98 = .slice A2 m2 c2 := g98
    clear g98
    clear hK
    refine wp_append_rd (.tmp 93) (.tmp 98) 24 (by rfl) w.heap.size 38 i0 (.agg #[.int .i64 0, .int .i64 0, .slice none 0 0, .bool false, .string (strOf [])]) 5 64 hund hi0 z0 z1 z2 t6 (by decide) (slot fr 93) i (rows.take (i * 5)) (eval_slot _ _) hv lo A2 m2 c2 (rows.drop ((i + 1) * 5)) ((eval_slot _ _).trans k98) (hcut w1 lo (hrd.below (Below.mono hC hlo))) o2 (by unfold maxLen; omega) (by omega) hsz ?_
    intro v' w' hown hg
    refine hk v' w' (hC.grown hg hsz fun k hk' => (hv.lt k hk').1) (said3_kept (not_lives (by kernel_rfl)) (not_lives (by kernel_rfl)) (not_lives (by kernel_rfl))) (said3_3 (by decide) (by decide) ?_)
    simpa only [Nat.zero_add, List.nil_append] using hown
  · refine owedl_val (.pointer (some ⟨gy, 6, none⟩)) rfl rfl (fun _ => (said3_v (by decide)).2 rfl) fun fr w1 hC hK => ?_
    have k12 : slot fr 12 = .pointer (some ⟨gy, 0, none⟩) := (known_out hK 12 (by kernel_rfl)).trans ky
    clear hK
    unfold slot at k12
    go_simp
  · intro vs w' hC hgood
    have h11 : w'.ownsRow w.heap.size 38 5 (vs 99) (i + m2) _ := un3_3 (by decide) (by decide) (hgood 99 (by kernel_rfl))
    have g12 := un3_v (hgood 100 (by kernel_rfl)) (by decide)
    have h12 : vs 100 = .pointer (some ⟨gy, 6, none⟩) := g12
    clear g12
    clear hgood
    obtain ⟨A', c', hv, _, _⟩ := slice_of_own h11
    have hq := hQ vs w' A' c' hC (by rw [← hv]; exact h11)
    have hy' := hy.below hC hy.lt
    have fz := hy'.frozen 6
    obtain ⟨v0, hv0⟩ := hyb
    have fy := (hy'.cell 6).trans hv0
    have q11 : slot (putsOf (#[{ dst := some 88, op := Go.Op.buildSlice 24 0 #[], type := 24, pos := "more.go:56", after := #[], guard := none }, { dst := some 89, op := Go.Op.fieldAddr 26 (Go.Operand.tmp 3) 6, type := 0, pos := "more.go:56", after := #[], guard := none }, { dst := some 90, op := Go.Op.load 24 (Go.Operand.tmp 89), type := 24, pos := "more.go:56", after := #[{ on := 1, ground := Go.Ground.data }], guard := none }, { dst := some 91, op := Go.Op.move (Go.Operand.tmp 16), type := 3, pos := "more.go:56", after := #[], guard := none }, { dst := some 92, op := Go.Op.slice 24 (Go.Operand.tmp 90) none (some (Go.Operand.tmp 91)) none, type := 24, pos := "more.go:56", after := #[{ on := 2, ground := Go.Ground.data }, { on := 3, ground := Go.Ground.data }], guard := none }, { dst := some 93, op := Go.Op.call { callee := Go.Callee.builtin Go.Builtin.append, args := #[Go.Operand.tmp 88, Go.Operand.tmp 92], argTypes := #[24, 24] }, type := 24, pos := "more.go:56", after := #[{ on := 0, ground := Go.Ground.data }, { on := 4, ground := Go.Ground.data }], guard := none }, { dst := some 94, op := Go.Op.fieldAddr 26 (Go.Operand.tmp 3) 6, type := 0, pos := "more.go:56", after := #[], guard := none }, { dst := some 95, op := Go.Op.load 24 (Go.Operand.tmp 94), type := 24, pos := "more.go:56", after := #[{ on := 6, ground := Go.Ground.data }], guard := none }, { dst := some 96, op := Go.Op.move (Go.Operand.tmp 16), type := 3, pos := "more.go:56", after := #[], guard := none }, { dst := some 97, op := Go.Op.binOp Go.BinOp.add 3 (Go.Operand.tmp 96) (Go.Operand.const (Go.Value.int Go.IntKind.i64 1)) 3, type := 3, pos := "more.go:56", after := #[{ on := 8, ground := Go.Ground.data }], guard := none }, { dst := some 98, op := Go.Op.slice 24 (Go.Operand.tmp 95) (some (Go.Operand.tmp 97)) none none, type := 24, pos := "more.go:56", after := #[{ on := 7, ground := Go.Ground.data }, { on := 9, ground := Go.Ground.data }], guard := none }, { dst := some 99, op := Go.Op.call { callee := Go.Callee.builtin Go.Builtin.append, args := #[Go.Operand.tmp 93, Go.Operand.tmp 98], argTypes := #[24, 24] }, type := 24, pos := "more.go:56", after := #[{ on := 5, ground := Go.Ground.data }, { on := 10, ground := Go.Ground.data }, { on := 5, ground := Go.Ground.chain }], guard := none }, { dst := some 100, op := Go.Op.fieldAddr 26 (Go.Operand.tmp 12) 6, type := 0, pos := "more.go:56", after := #[{ on := 0, ground := Go.Ground.phase }, { on := 1, ground := Go.Ground.phase }, { on := 2, ground := Go.Ground.phase }, { on := 3, ground := Go.Ground.phase }, { on := 4, ground := Go.Ground.phase }, { on := 5, ground := Go.Ground.phase }, { on := 6, ground := Go.Ground.phase }, { on := 7, ground := Go.Ground.phase }, { on := 8, ground := Go.Ground.phase }, { on := 9, ground := Go.Ground.phase }, { on := 10, ground := Go.Ground.phase }, { on := 11, ground := Go.Ground.phase }], guard := none }, { dst := none, op := Go.Op.store 24 (Go.Operand.tmp 100) (Go.Operand.tmp 99), type := 0, pos := "more.go:56", after := #[{ on := 12, ground := Go.Ground.data }, { on := 11, ground := Go.Ground.data }, { on := 11, ground := Go.Ground.chain }, { on := 0, ground := Go.Ground.phase }, { on := 1, ground := Go.Ground.phase }, { on := 2, ground := Go.Ground.phase }, { on := 3, ground := Go.Ground.phase }, { on := 4, ground := Go.Ground.phase }, { on := 5, ground := Go.Ground.phase }, { on := 6, ground := Go.Ground.phase }, { on := 7, ground := Go.Ground.phase }, { on := 8, ground := Go.Ground.phase }, { on := 9, ground := Go.Ground.phase }, { on := 10, ground := Go.Ground.phase }, { on := 11, ground := Go.Ground.phase }], guard := none }] : Array Oper).toList.dropLast vs a0) 99 = .slice A' (i + m2) c' := (puts_in hs (by kernel_rfl)).trans hv
    have q12 : slot (putsOf (#[{ dst := some 88, op := Go.Op.buildSlice 24 0 #[], type := 24, pos := "more.go:56", after := #[], guard := none }, { dst := some 89, op := Go.Op.fieldAddr 26 (Go.Operand.tmp 3) 6, type := 0, pos := "more.go:56", after := #[], guard := none }, { dst := some 90, op := Go.Op.load 24 (Go.Operand.tmp 89), type := 24, pos := "more.go:56", after := #[{ on := 1, ground := Go.Ground.data }], guard := none }, { dst := some 91, op := Go.Op.move (Go.Operand.tmp 16), type := 3, pos := "more.go:56", after := #[], guard := none }, { dst := some 92, op := Go.Op.slice 24 (Go.Operand.tmp 90) none (some (Go.Operand.tmp 91)) none, type := 24, pos := "more.go:56", after := #[{ on := 2, ground := Go.Ground.data }, { on := 3, ground := Go.Ground.data }], guard := none }, { dst := some 93, op := Go.Op.call { callee := Go.Callee.builtin Go.Builtin.append, args := #[Go.Operand.tmp 88, Go.Operand.tmp 92], argTypes := #[24, 24] }, type := 24, pos := "more.go:56", after := #[{ on := 0, ground := Go.Ground.data }, { on := 4, ground := Go.Ground.data }], guard := none }, { dst := some 94, op := Go.Op.fieldAddr 26 (Go.Operand.tmp 3) 6, type := 0, pos := "more.go:56", after := #[], guard := none }, { dst := some 95, op := Go.Op.load 24 (Go.Operand.tmp 94), type := 24, pos := "more.go:56", after := #[{ on := 6, ground := Go.Ground.data }], guard := none }, { dst := some 96, op := Go.Op.move (Go.Operand.tmp 16), type := 3, pos := "more.go:56", after := #[], guard := none }, { dst := some 97, op := Go.Op.binOp Go.BinOp.add 3 (Go.Operand.tmp 96) (Go.Operand.const (Go.Value.int Go.IntKind.i64 1)) 3, type := 3, pos := "more.go:56", after := #[{ on := 8, ground := Go.Ground.data }], guard := none }, { dst := some 98, op := Go.Op.slice 24 (Go.Operand.tmp 95) (some (Go.Operand.tmp 97)) none none, type := 24, pos := "more.go:56", after := #[{ on := 7, ground := Go.Ground.data }, { on := 9, ground := Go.Ground.data }], guard := none }, { dst := some 99, op := Go.Op.call { callee := Go.Callee.builtin Go.Builtin.append, args := #[Go.Operand.tmp 93, Go.Operand.tmp 98], argTypes := #[24, 24] }, type := 24, pos := "more.go:56", after := #[{ on := 5, ground := Go.Ground.data }, { on := 10, ground := Go.Ground.data }, { on := 5, ground := Go.Ground.chain }], guard := none }, { dst := some 100, op := Go.Op.fieldAddr 26 (Go.Operand.tmp 12) 6, type := 0, pos := "more.go:56", after := #[{ on := 0, ground := Go.Ground.phase }, { on := 1, ground := Go.Ground.phase }, { on := 2, ground := Go.Ground.phase }, { on := 3, ground := Go.Ground.phase }, { on := 4, ground := Go.Ground.phase }, { on := 5, ground := Go.Ground.phase }, { on := 6, ground := Go.Ground.phase }, { on := 7, ground := Go.Ground.phase }, { on := 8, ground := Go.Ground.phase }, { on := 9, ground := Go.Ground.phase }, { on := 10, ground := Go.Ground.phase }, { on := 11, ground := Go.Ground.phase }], guard := none }, { dst := none, op := Go.Op.store 24 (Go.Operand.tmp 100) (Go.Operand.tmp 99), type := 0, pos := "more.go:56", after := #[{ on := 12, ground := Go.Ground.data }, { on := 11, ground := Go.Ground.data }, { on := 11, ground := Go.Ground.chain }, { on := 0, ground := Go.Ground.phase }, { on := 1, ground := Go.Ground.phase }, { on := 2, ground := Go.Ground.phase }, { on := 3, ground := Go.Ground.phase }, { on := 4, ground := Go.Ground.phase }, { on := 5, ground := Go.Ground.phase }, { on := 6, ground := Go.Ground.phase }, { on := 7, ground := Go.Ground.phase }, { on := 8, ground := Go.Ground.phase }, { on := 9, ground := Go.Ground.phase }, { on := 10, ground := Go.Ground.phase }, { on := 11, ground := Go.Ground.phase }], guard := none }] : Array Oper).toList.dropLast vs a0) 100 = .pointer (some ⟨gy, 6, none⟩) := (puts_in hs (by kernel_rfl)).trans h12
    generalize putsOf (#[{ dst := some 88, op := Go.Op.buildSlice 24 0 #[], type := 24, pos := "more.go:56", after := #[], guard := none }, { dst := some 89, op := Go.Op.fieldAddr 26 (Go.Operand.tmp 3) 6, type := 0, pos := "more.go:56", after := #[], guard := none }, { dst := some 90, op := Go.Op.load 24 (Go.Operand.tmp 89), type := 24, pos := "more.go:56", after := #[{ on := 1, ground := Go.Ground.data }], guard := none }, { dst := some 91, op := Go.Op.move (Go.Operand.tmp 16), type := 3, pos := "more.go:56", after := #[], guard := none }, { dst := some 92, op := Go.Op.slice 24 (Go.Operand.tmp 90) none (some (Go.Operand.tmp 91)) none, type := 24, pos := "more.go:56", after := #[{ on := 2, ground := Go.Ground.data }, { on := 3, ground := Go.Ground.data }], guard := none }, { dst := some 93, op := Go.Op.call { callee := Go.Callee.builtin Go.Builtin.append, args := #[Go.Operand.tmp 88, Go.Operand.tmp 92], argTypes := #[24, 24] }, type := 24, pos := "more.go:56", after := #[{ on := 0, ground := Go.Ground.data }, { on := 4, ground := Go.Ground.data }], guard := none }, { dst := some 94, op := Go.Op.fieldAddr 26 (Go.Operand.tmp 3) 6, type := 0, pos := "more.go:56", after := #[], guard := none }, { dst := some 95, op := Go.Op.load 24 (Go.Operand.tmp 94), type := 24, pos := "more.go:56", after := #[{ on := 6, ground := Go.Ground.data }], guard := none }, { dst := some 96, op := Go.Op.move (Go.Operand.tmp 16), type := 3, pos := "more.go:56", after := #[], guard := none }, { dst := some 97, op := Go.Op.binOp Go.BinOp.add 3 (Go.Operand.tmp 96) (Go.Operand.const (Go.Value.int Go.IntKind.i64 1)) 3, type := 3, pos := "more.go:56", after := #[{ on := 8, ground := Go.Ground.data }], guard := none }, { dst := some 98, op := Go.Op.slice 24 (Go.Operand.tmp 95) (some (Go.Operand.tmp 97)) none none, type := 24, pos := "more.go:56", after := #[{ on := 7, ground := Go.Ground.data }, { on := 9, ground := Go.Ground.data }], guard := none }, { dst := some 99, op := Go.Op.call { callee := Go.Callee.builtin Go.Builtin.append, args := #[Go.Operand.tmp 93, Go.Operand.tmp 98], argTypes := #[24, 24] }, type := 24, pos := "more.go:56", after := #[{ on := 5, ground := Go.Ground.data }, { on := 10, ground := Go.Ground.data }, { on := 5, ground := Go.Ground.chain }], guard := none }, { dst := some 100, op := Go.Op.fieldAddr 26 (Go.Operand.tmp 12) 6, type := 0, pos := "more.go:56", after := #[{ on := 0, ground := Go.Ground.phase }, { on := 1, ground := Go.Ground.phase }, { on := 2, ground := Go.Ground.phase }, { on := 3, ground := Go.Ground.phase }, { on := 4, ground := Go.Ground.phase }, { on := 5, ground := Go.Ground.phase }, { on := 6, ground := Go.Ground.phase }, { on := 7, ground := Go.Ground.phase }, { on := 8, ground := Go.Ground.phase }, { on := 9, ground := Go.Ground.phase }, { on := 10, ground := Go.Ground.phase }, { on := 11, ground := Go.Ground.phase }], guard := none }, { dst := none, op := Go.Op.store 24 (Go.Operand.tmp 100) (Go.Operand.tmp 99), type := 0, pos := "more.go:56", after := #[{ on := 12, ground := Go.Ground.data }, { on := 11, ground := Go.Ground.data }, { on := 11, ground := Go.Ground.chain }, { on := 0, ground := Go.Ground.phase }, { on := 1, ground := Go.Ground.phase }, { on := 2, ground := Go.Ground.phase }, { on := 3, ground := Go.Ground.phase }, { on := 4, ground := Go.Ground.phase }, { on := 5, ground := Go.Ground.phase }, { on := 6, ground := Go.Ground.phase }, { on := 7, ground := Go.Ground.phase }, { on := 8, ground := Go.Ground.phase }, { on := 9, ground := Go.Ground.phase }, { on := 10, ground := Go.Ground.phase }, { on := 11, ground := Go.Ground.phase }], guard := none }] : Array Oper).toList.dropLast vs a0 = fr at *
    clear h11 h12 hv hQ
    unfold slot at q11 q12
    refine ⟨rfl, ?_⟩
    unfold Oper.wp
    go_simp
    exact hq
set_option maxRecDepth 100000 in
set_option maxHeartbeats 4000000 in
/-- Region 20: a row, and one of its elements once more behind it. -/
theorem cut_20 {Q : Exit → Act → World → Prop} (a0 : Act) (w : World) (gx gy n c i lo : Nat) (ad : Addr) (rows : List Value) (x : Snp) (sp : Option Addr × Nat) (blk : Array Value) (hs : a0.tmps.size = 136)
    (k3 : slot a0 3 = .pointer (some ⟨gx, 0, none⟩)) (kx : slot a0 16 = .int .i64 (i : Int)) (ky : slot a0 13 = .pointer (some ⟨gy, 0, none⟩))
    (f0 : w.cell? ⟨gx, 6, none⟩ = some (.slice (some ad) n c)) (hgx : gx < w.heap.size) (hrd : Rd w lo 5 (some ad) n rows) (hlo : lo ≤ w.heap.size) (hin : i < n) (hn : n ≤ 100)
    (hab : ad.block < w.heap.size)
    (e0 : w.cell? (ad.add (i * 5)) = some (.int .i64 x.id)) (e1 : w.cell? ⟨(ad.add (i * 5)).block, (ad.add (i * 5)).off + 1, none⟩ = some (.int .i64 x.set)) (e2 : w.cell? ⟨(ad.add (i * 5)).block, (ad.add (i * 5)).off + 2, none⟩ = some (.slice sp.1 x.chunks.length sp.2))
    (e3 : w.cell? ⟨(ad.add (i * 5)).block, (ad.add (i * 5)).off + 3, none⟩ = some (.bool x.held)) (e4 : w.cell? ⟨(ad.add (i * 5)).block, (ad.add (i * 5)).off + 4, none⟩ = some (.string (strOf x.tag)))
    (one : ∀ x ∈ rows, x.oneCell' = true) (hy : Blk w gy 26 blk) (hyb : ∃ v, blk[6]? = some v)
    (hQ : ∀ (vs : Tmp → Value) (w' : World) (A' : Option Addr) (c' : Nat), Grew w w' → w'.ownsRow w.heap.size 38 5 (.slice A' (n + 1) c') (n + 1) (rows ++ (sncells x sp)) →
      Q .normal (putsOf (#[{ dst := some 101, op := Go.Op.buildSlice 24 0 #[], type := 24, pos := "more.go:57", after := #[], guard := none }, { dst := some 102, op := Go.Op.fieldAddr 26 (Go.Operand.tmp 3) 6, type := 0, pos := "more.go:57", after := #[], guard := none }, { dst := some 103, op := Go.Op.load 24 (Go.Operand.tmp 102), type := 24, pos := "more.go:57", after := #[{ on := 1, ground := Go.Ground.data }], guard := none }, { dst := some 104, op := Go.Op.call { callee := Go.Callee.builtin Go.Builtin.append, args := #[Go.Operand.tmp 101, Go.Operand.tmp 103], argTypes := #[24, 24] }, type := 24, pos := "more.go:57", after := #[{ on := 0, ground := Go.Ground.data }, { on := 2, ground := Go.Ground.data }], guard := none }, { dst := some 105, op := Go.Op.fieldAddr 26 (Go.Operand.tmp 3) 6, type := 0, pos := "more.go:57", after := #[], guard := none }, { dst := some 106, op := Go.Op.load 24 (Go.Operand.tmp 105), type := 24, pos := "more.go:57", after := #[{ on := 4, ground := Go.Ground.data }], guard := none }, { dst := some 107, op := Go.Op.move (Go.Operand.tmp 16), type := 3, pos := "more.go:57", after := #[], guard := none }, { dst := some 108, op := Go.Op.indexAddr 24 (Go.Operand.tmp 106) (Go.Operand.tmp 107), type := 0, pos := "more.go:57", after := #[{ on := 5, ground := Go.Ground.data }, { on := 6, ground := Go.Ground.data }], guard := none }, { dst := some 109, op := Go.Op.load 38 (Go.Operand.tmp 108), type := 38, pos := "more.go:57", after := #[{ on := 7, ground := Go.Ground.data }], guard := none }, { dst := some 110, op := Go.Op.buildSlice 24 1 #[(0, Go.Operand.tmp 109)], type := 24, pos := "more.go:57", after := #[{ on := 8, ground := Go.Ground.data }], guard := none }, { dst := some 111, op := Go.Op.call { callee := Go.Callee.builtin Go.Builtin.append, args := #[Go.Operand.tmp 104, Go.Operand.tmp 110], argTypes := #[24, 24] }, type := 24, pos := "more.go:57", after := #[{ on := 3, ground := Go.Ground.data }, { on := 9, ground := Go.Ground.data }, { on := 3, ground := Go.Ground.chain }], guard := none }, { dst := some 112, op := Go.Op.fieldAddr 26 (Go.Operand.tmp 13) 6, type := 0, pos := "more.go:57", after := #[{ on := 0, ground := Go.Ground.phase }, { on := 1, ground := Go.Ground.phase }, { on := 2, ground := Go.Ground.phase }, { on := 3, ground := Go.Ground.phase }, { on := 4, ground := Go.Ground.phase }, { on := 5, ground := Go.Ground.phase }, { on := 6, ground := Go.Ground.phase }, { on := 7, ground := Go.Ground.phase }, { on := 8, ground := Go.Ground.phase }, { on := 9, ground := Go.Ground.phase }, { on := 10, ground := Go.Ground.phase }], guard := none }, { dst := none, op := Go.Op.store 24 (Go.Operand.tmp 112) (Go.Operand.tmp 111), type := 0, pos := "more.go:57", after := #[{ on := 11, ground := Go.Ground.data }, { on := 10, ground := Go.Ground.data }, { on := 10, ground := Go.Ground.chain }, { on := 0, ground := Go.Ground.phase }, { on := 1, ground := Go.Ground.phase }, { on := 2, ground := Go.Ground.phase }, { on := 3, ground := Go.Ground.phase }, { on := 4, ground := Go.Ground.phase }, { on := 5, ground := Go.Ground.phase }, { on := 6, ground := Go.Ground.phase }, { on := 7, ground := Go.Ground.phase }, { on := 8, ground := Go.Ground.phase }, { on := 9, ground := Go.Ground.phase }, { on := 10, ground := Go.Ground.phase }], guard := none }] : Array Oper).toList.dropLast vs a0) (w'.setCell ⟨gy, 6, none⟩ (.slice A' (n + 1) c'))) :
    (Code.region 20 #[{ dst := some 101, op := Go.Op.buildSlice 24 0 #[], type := 24, pos := "more.go:57", after := #[], guard := none }, { dst := some 102, op := Go.Op.fieldAddr 26 (Go.Operand.tmp 3) 6, type := 0, pos := "more.go:57", after := #[], guard := none }, { dst := some 103, op := Go.Op.load 24 (Go.Operand.tmp 102), type := 24, pos := "more.go:57", after := #[{ on := 1, ground := Go.Ground.data }], guard := none }, { dst := some 104, op := Go.Op.call { callee := Go.Callee.builtin Go.Builtin.append, args := #[Go.Operand.tmp 101, Go.Operand.tmp 103], argTypes := #[24, 24] }, type := 24, pos := "more.go:57", after := #[{ on := 0, ground := Go.Ground.data }, { on := 2, ground := Go.Ground.data }], guard := none }, { dst := some 105, op := Go.Op.fieldAddr 26 (Go.Operand.tmp 3) 6, type := 0, pos := "more.go:57", after := #[], guard := none }, { dst := some 106, op := Go.Op.load 24 (Go.Operand.tmp 105), type := 24, pos := "more.go:57", after := #[{ on := 4, ground := Go.Ground.data }], guard := none }, { dst := some 107, op := Go.Op.move (Go.Operand.tmp 16), type := 3, pos := "more.go:57", after := #[], guard := none }, { dst := some 108, op := Go.Op.indexAddr 24 (Go.Operand.tmp 106) (Go.Operand.tmp 107), type := 0, pos := "more.go:57", after := #[{ on := 5, ground := Go.Ground.data }, { on := 6, ground := Go.Ground.data }], guard := none }, { dst := some 109, op := Go.Op.load 38 (Go.Operand.tmp 108), type := 38, pos := "more.go:57", after := #[{ on := 7, ground := Go.Ground.data }], guard := none }, { dst := some 110, op := Go.Op.buildSlice 24 1 #[(0, Go.Operand.tmp 109)], type := 24, pos := "more.go:57", after := #[{ on := 8, ground := Go.Ground.data }], guard := none }, { dst := some 111, op := Go.Op.call { callee := Go.Callee.builtin Go.Builtin.append, args := #[Go.Operand.tmp 104, Go.Operand.tmp 110], argTypes := #[24, 24] }, type := 24, pos := "more.go:57", after := #[{ on := 3, ground := Go.Ground.data }, { on := 9, ground := Go.Ground.data }, { on := 3, ground := Go.Ground.chain }], guard := none }, { dst := some 112, op := Go.Op.fieldAddr 26 (Go.Operand.tmp 13) 6, type := 0, pos := "more.go:57", after := #[{ on := 0, ground := Go.Ground.phase }, { on := 1, ground := Go.Ground.phase }, { on := 2, ground := Go.Ground.phase }, { on := 3, ground := Go.Ground.phase }, { on := 4, ground := Go.Ground.phase }, { on := 5, ground := Go.Ground.phase }, { on := 6, ground := Go.Ground.phase }, { on := 7, ground := Go.Ground.phase }, { on := 8, ground := Go.Ground.phase }, { on := 9, ground := Go.Ground.phase }, { on := 10, ground := Go.Ground.phase }], guard := none }, { dst := none, op := Go.Op.store 24 (Go.Operand.tmp 112) (Go.Operand.tmp 111), type := 0, pos := "more.go:57", after := #[{ on := 11, ground := Go.Ground.data }, { on := 10, ground := Go.Ground.data }, { on := 10, ground := Go.Ground.chain }, { on := 0, ground := Go.Ground.phase }, { on := 1, ground := Go.Ground.phase }, { on := 2, ground := Go.Ground.phase }, { on := 3, ground := Go.Ground.phase }, { on := 4, ground := Go.Ground.phase }, { on := 5, ground := Go.Ground.phase }, { on := 6, ground := Go.Ground.phase }, { on := 7, ground := Go.Ground.phase }, { on := 8, ground := Go.Ground.phase }, { on := 9, ground := Go.Ground.phase }, { on := 10, ground := Go.Ground.phase }], guard := none }] true).wp Try.prog Q a0 w := by
  obtain ⟨i0, hi0, z0, z1, z2⟩ := info_parts snap_info
  have hund := Try.underlying24
  have t6 : (.agg #[.int .i64 0, .int .i64 0, .slice none 0 0, .bool false, .string (strOf [])] : Value).cells.size = 5 := rfl
  have o2 : ∀ u ∈ (sncells x sp), u.oneCell' = true := sn_one x sp
  have hab2 : (ad.add (i * 5)).block < w.heap.size := by rw [add_block]; exact hab
  refine wp_region_live2 (n := 136) (C := Grew w) (Γ := (Said4 110 (fun u w' => ∃ g, u = .slice (some ⟨g, 0, none⟩) 1 1 ∧ Blk w' g 38 (sncells x sp).toArray ∧ w.heap.size ≤ g) (Said3 101 104 111 (fun u w' => ∃ g, u = .slice (some ⟨g, 0, none⟩) 0 0 ∧ Blk w' g 38 #[] ∧ w.heap.size ≤ g) (fun u w' => w'.ownsRow w.heap.size 38 5 u n rows) (fun u w' => w'.ownsRow w.heap.size 38 5 u (n + 1) (rows ++ (sncells x sp))) (pickV [(102, .pointer (some ⟨gx, 6, none⟩)), (103, .slice (some ad) n c), (105, .pointer (some ⟨gx, 6, none⟩)), (106, .slice (some ad) n c), (107, .int .i64 (i : Int)), (108, .pointer (some (ad.add (i * 5)))), (109, snagg x sp), (112, .pointer (some ⟨gy, 6, none⟩))])))) rfl (by kernel_rfl) (by kernel_rfl) (by kernel_rfl) hs ⟨rfl, rfl, rfl, Nat.le_refl _, fun _ _ => rfl⟩ ⟨?_, ?_, ?_, ?_, ?_, ?_, ?_, ?_, ?_, ?_, ?_, ?_, trivial⟩ ?_
  · refine owedl_of rfl rfl fun fr w1 hC hK K hk => ?_
    have hsz : w.heap.size ≤ w1.heap.size := Below.size hC
    have hz := hk (.slice (some ⟨w1.heap.size, 0, none⟩) 0 0) (w1.alloc (.cells #[] 38)) (Below.trans hC (Below.alloc (Below.refl _ _) hsz _)) (said4_kept (fun _ u hu => by obtain ⟨g, e1, e2, e3⟩ := hu; exact ⟨g, e1, e2.alloc _, e3⟩) (said3_kept (not_lives (by kernel_rfl)) (not_lives (by kernel_rfl)) (not_lives (by kernel_rfl)))) (said4_on (by decide) (said3_1 ⟨_, rfl, Blk.new _ _ _, hsz⟩))
    clear hK hk
    unfold Oper.wp
    go_simp
    exact hz
  · refine owedl_val (.pointer (some ⟨gx, 6, none⟩)) rfl rfl (fun _ => (said4_on (by decide) ((said3_v (by decide)).2 rfl))) fun fr w1 hC hK => ?_
    have k3 : slot fr 3 = .pointer (some ⟨gx, 0, none⟩) := (known_out hK 3 (by kernel_rfl)).trans k3
    clear hK
    unfold slot at k3
    go_simp
  · refine owedl_val (.slice (some ad) n c) rfl rfl (fun _ => (said4_on (by decide) ((said3_v (by decide)).2 rfl))) fun fr w1 hC hK => ?_
    have g102 := un3_v (said4_off (by decide) (known_in hK 102 (by kernel_rfl))) (by decide)
    have k102 : slot fr 102 = .pointer (some ⟨gx, 6, none⟩) := g102
    clear g102
    clear hK
    unfold slot at k102
    have x0 := (Below.cell hC (p := ⟨gx, 6, none⟩) hgx).trans f0
    go_simp
  · refine owedl_of rfl rfl fun fr w1 hC hK K hk => ?_
    have hsz : w.heap.size ≤ w1.heap.size := Below.size hC
    obtain ⟨g, hv, hgb, hgg⟩ := un3_1 (said4_off (by decide) (known_in hK 101 (by kernel_rfl)))
    have g103 := un3_v (said4_off (by decide) (known_in hK 103 (by kernel_rfl))) (by decide)
    have k103 : slot fr 103 = .slice (some ad) n c := g103
    clear g103
    clear hK
    have hown0 : w1.ownsRow w.heap.size 38 5 (.slice (some ⟨g, 0, none⟩) 0 0) 0 [] := ⟨by simp, .inr ⟨g, 0, #[], rfl, hgg, hgb, Nat.le_refl _, by unfold maxLen; omega, rfl, by simp⟩⟩
    refine wp_append_rd (.tmp 101) (.tmp 103) 24 (by rfl) w.heap.size 38 i0 (.agg #[.int .i64 0, .int .i64 0, .slice none 0 0, .bool false, .string (strOf [])]) 5 64 hund hi0 z0 z1 z2 t6 (by decide) (.slice (some ⟨g, 0, none⟩) 0 0) 0 [] ((eval_slot _ _).trans hv) hown0 lo (some ad) n c rows ((eval_slot _ _).trans k103) (hrd.below (Below.mono hC hlo)) one (by unfold maxLen; omega) (by omega) hsz ?_
    intro v' w' hown hg
    refine hk v' w' (hC.grown hg hsz fun k hk' => (hown0.lt k hk').1) (said4_kept (fun _ u hu => ?_) (said3_kept (not_lives (by kernel_rfl)) (not_lives (by kernel_rfl)) (not_lives (by kernel_rfl)))) (said4_on (by decide) (said3_2 (by decide) ?_))
    · obtain ⟨g', f1, f2, f3⟩ := hu
      refine ⟨g', f1, ?_, f3⟩
      unfold Blk at f2 hgb ⊢
      rw [hg.block g' (Array.getElem?_eq_some_iff.1 f2).1 (fun e => by
        have e' : g' = g := by simpa [Value.ownBlock] using e
        rw [e', hgb] at f2
        simp [sncells] at f2)]
      exact f2
    · simpa only [Nat.zero_add, List.nil_append] using hown
  · refine owedl_val (.pointer (some ⟨gx, 6, none⟩)) rfl rfl (fun _ => (said4_on (by decide) ((said3_v (by decide)).2 rfl))) fun fr w1 hC hK => ?_
    have k3 : slot fr 3 = .pointer (some ⟨gx, 0, none⟩) := (known_out hK 3 (by kernel_rfl)).trans k3
    clear hK
    unfold slot at k3
    go_simp
  · refine owedl_val (.slice (some ad) n c) rfl rfl (fun _ => (said4_on (by decide) ((said3_v (by decide)).2 rfl))) fun fr w1 hC hK => ?_
    have g105 := un3_v (said4_off (by decide) (known_in hK 105 (by kernel_rfl))) (by decide)
    have k105 : slot fr 105 = .pointer (some ⟨gx, 6, none⟩) := g105
    clear g105
    clear hK
    unfold slot at k105
    have x0 := (Below.cell hC (p := ⟨gx, 6, none⟩) hgx).trans f0
    go_simp
  · exact owedl_move rfl rfl (.inl rfl) fun fr w1 _ hK => (said4_on (by decide) ((said3_v (by decide)).2 ((known_out hK 16 (by kernel_rfl)).trans kx)))
  · refine owedl_val (.pointer (some (ad.add (i * 5)))) rfl rfl (fun _ => (said4_on (by decide) ((said3_v (by decide)).2 rfl))) fun fr w1 hC hK => ?_
    have g106 := un3_v (said4_off (by decide) (known_in hK 106 (by kernel_rfl))) (by decide)
    have k106 : slot fr 106 = .slice (some ad) n c := g106
    clear g106
    have g107 := un3_v (said4_off (by decide) (known_in hK 107 (by kernel_rfl))) (by decide)
    have k107 : slot fr 107 = .int .i64 (i : Int) := g107
    clear g107
    clear hK
    unfold slot at k106 k107
    have f2 : ¬ n ≤ i := by omega
    go_simp
  · refine owedl_val (snagg x sp) rfl rfl (fun _ => (said4_on (by decide) ((said3_v (by decide)).2 rfl))) fun fr w1 hC hK => ?_
    have g108 := un3_v (said4_off (by decide) (known_in hK 108 (by kernel_rfl))) (by decide)
    have k108 : slot fr 108 = .pointer (some (ad.add (i * 5))) := g108
    clear g108
    clear hK
    unfold slot at k108
    have x0 := (Below.cell hC (p := ad.add (i * 5)) hab2).trans e0
    have x1 := (Below.cell hC (p := ⟨(ad.add (i * 5)).block, (ad.add (i * 5)).off + 1, none⟩) hab2).trans e1
    have x2 := (Below.cell hC (p := ⟨(ad.add (i * 5)).block, (ad.add (i * 5)).off + 2, none⟩) hab2).trans e2
    have x3 := (Below.cell hC (p := ⟨(ad.add (i * 5)).block, (ad.add (i * 5)).off + 3, none⟩) hab2).trans e3
    have x4 := (Below.cell hC (p := ⟨(ad.add (i * 5)).block, (ad.add (i * 5)).off + 4, none⟩) hab2).trans e4
    unfold snagg sncells
    go_simp
  · refine owedl_of rfl rfl fun fr w1 hC hK K hk => ?_
    have hsz : w.heap.size ≤ w1.heap.size := Below.size hC
    have g109 := un3_v (said4_off (by decide) (known_in hK 109 (by kernel_rfl))) (by decide)
    have k109 : slot fr 109 = snagg x sp := g109
    clear g109
    have hz := hk (.slice (some ⟨w1.heap.size, 0, none⟩) 1 1) (w1.alloc (.cells (sncells x sp).toArray 38)) (Below.trans hC (Below.alloc (Below.refl _ _) hsz _)) (said4_kept (not_lives (by kernel_rfl)) (said3_kept (fun _ u hu => by obtain ⟨g, e1, e2, e3⟩ := hu; exact ⟨g, e1, e2.alloc _, e3⟩) (fun _ u hu => own_below hu (Below.alloc (Below.refl _ _) (Nat.le_refl _) _)) (not_lives (by kernel_rfl)))) (said4_at ⟨_, rfl, Blk.new _ _ _, hsz⟩)
    clear hK hk
    unfold slot at k109
    unfold snagg sncells at *
    unfold Oper.wp
    go_simp
    exact hz
  · refine owedl_of rfl rfl fun fr w1 hC hK K hk => ?_
    have hsz : w.heap.size ≤ w1.heap.size := Below.size hC
    have hv := un3_2 (by decide) (said4_off (by decide) (known_in hK 104 (by kernel_rfl)))
    obtain ⟨g, hv2, hgb, hgg⟩ := un4_at (known_in hK 110 (by kernel_rfl))
    clear hK
    refine wp_append_rd (.tmp 104) (.tmp 110) 24 (by rfl) w.heap.size 38 i0 (.agg #[.int .i64 0, .int .i64 0, .slice none 0 0, .bool false, .string (strOf [])]) 5 64 hund hi0 z0 z1 z2 t6 (by decide) (slot fr 104) n rows (eval_slot _ _) hv (g + 1) (some ⟨g, 0, none⟩) 1 1 (sncells x sp) ((eval_slot _ _).trans hv2) (rd_of_blk hgb rfl) o2 (by unfold maxLen; omega) (by omega) hsz ?_
    intro v' w' hown hg
    exact hk v' w' (hC.grown hg hsz fun k hk' => (hv.lt k hk').1) (said4_kept (not_lives (by kernel_rfl)) (said3_kept (not_lives (by kernel_rfl)) (not_lives (by kernel_rfl)) (not_lives (by kernel_rfl)))) (said4_on (by decide) (said3_3 (by decide) (by decide) hown))
  · refine owedl_val (.pointer (some ⟨gy, 6, none⟩)) rfl rfl (fun _ => (said4_on (by decide) ((said3_v (by decide)).2 rfl))) fun fr w1 hC hK => ?_
    have k13 : slot fr 13 = .pointer (some ⟨gy, 0, none⟩) := (known_out hK 13 (by kernel_rfl)).trans ky
    clear hK
    unfold slot at k13
    go_simp
  · intro vs w' hC hgood
    have h11 : w'.ownsRow w.heap.size 38 5 (vs 111) (n + 1) _ := un3_3 (by decide) (by decide) (said4_off (by decide) (hgood 111 (by kernel_rfl)))
    have g12 := un3_v (said4_off (by decide) (hgood 112 (by kernel_rfl))) (by decide)
    have h12 : vs 112 = .pointer (some ⟨gy, 6, none⟩) := g12
    clear g12 hgood
    obtain ⟨A', c', hv, _, _⟩ := slice_of_own h11
    have hq := hQ vs w' A' c' hC (by rw [← hv]; exact h11)
    have hy' := hy.below hC hy.lt
    have fz := hy'.frozen 6
    obtain ⟨v0, hv0⟩ := hyb
    have fy := (hy'.cell 6).trans hv0
    have q11 : slot (putsOf (#[{ dst := some 101, op := Go.Op.buildSlice 24 0 #[], type := 24, pos := "more.go:57", after := #[], guard := none }, { dst := some 102, op := Go.Op.fieldAddr 26 (Go.Operand.tmp 3) 6, type := 0, pos := "more.go:57", after := #[], guard := none }, { dst := some 103, op := Go.Op.load 24 (Go.Operand.tmp 102), type := 24, pos := "more.go:57", after := #[{ on := 1, ground := Go.Ground.data }], guard := none }, { dst := some 104, op := Go.Op.call { callee := Go.Callee.builtin Go.Builtin.append, args := #[Go.Operand.tmp 101, Go.Operand.tmp 103], argTypes := #[24, 24] }, type := 24, pos := "more.go:57", after := #[{ on := 0, ground := Go.Ground.data }, { on := 2, ground := Go.Ground.data }], guard := none }, { dst := some 105, op := Go.Op.fieldAddr 26 (Go.Operand.tmp 3) 6, type := 0, pos := "more.go:57", after := #[], guard := none }, { dst := some 106, op := Go.Op.load 24 (Go.Operand.tmp 105), type := 24, pos := "more.go:57", after := #[{ on := 4, ground := Go.Ground.data }], guard := none }, { dst := some 107, op := Go.Op.move (Go.Operand.tmp 16), type := 3, pos := "more.go:57", after := #[], guard := none }, { dst := some 108, op := Go.Op.indexAddr 24 (Go.Operand.tmp 106) (Go.Operand.tmp 107), type := 0, pos := "more.go:57", after := #[{ on := 5, ground := Go.Ground.data }, { on := 6, ground := Go.Ground.data }], guard := none }, { dst := some 109, op := Go.Op.load 38 (Go.Operand.tmp 108), type := 38, pos := "more.go:57", after := #[{ on := 7, ground := Go.Ground.data }], guard := none }, { dst := some 110, op := Go.Op.buildSlice 24 1 #[(0, Go.Operand.tmp 109)], type := 24, pos := "more.go:57", after := #[{ on := 8, ground := Go.Ground.data }], guard := none }, { dst := some 111, op := Go.Op.call { callee := Go.Callee.builtin Go.Builtin.append, args := #[Go.Operand.tmp 104, Go.Operand.tmp 110], argTypes := #[24, 24] }, type := 24, pos := "more.go:57", after := #[{ on := 3, ground := Go.Ground.data }, { on := 9, ground := Go.Ground.data }, { on := 3, ground := Go.Ground.chain }], guard := none }, { dst := some 112, op := Go.Op.fieldAddr 26 (Go.Operand.tmp 13) 6, type := 0, pos := "more.go:57", after := #[{ on := 0, ground := Go.Ground.phase }, { on := 1, ground := Go.Ground.phase }, { on := 2, ground := Go.Ground.phase }, { on := 3, ground := Go.Ground.phase }, { on := 4, ground := Go.Ground.phase }, { on := 5, ground := Go.Ground.phase }, { on := 6, ground := Go.Ground.phase }, { on := 7, ground := Go.Ground.phase }, { on := 8, ground := Go.Ground.phase }, { on := 9, ground := Go.Ground.phase }, { on := 10, ground := Go.Ground.phase }], guard := none }, { dst := none, op := Go.Op.store 24 (Go.Operand.tmp 112) (Go.Operand.tmp 111), type := 0, pos := "more.go:57", after := #[{ on := 11, ground := Go.Ground.data }, { on := 10, ground := Go.Ground.data }, { on := 10, ground := Go.Ground.chain }, { on := 0, ground := Go.Ground.phase }, { on := 1, ground := Go.Ground.phase }, { on := 2, ground := Go.Ground.phase }, { on := 3, ground := Go.Ground.phase }, { on := 4, ground := Go.Ground.phase }, { on := 5, ground := Go.Ground.phase }, { on := 6, ground := Go.Ground.phase }, { on := 7, ground := Go.Ground.phase }, { on := 8, ground := Go.Ground.phase }, { on := 9, ground := Go.Ground.phase }, { on := 10, ground := Go.Ground.phase }], guard := none }] : Array Oper).toList.dropLast vs a0) 111 = .slice A' (n + 1) c' := (puts_in hs (by kernel_rfl)).trans hv
    have q12 : slot (putsOf (#[{ dst := some 101, op := Go.Op.buildSlice 24 0 #[], type := 24, pos := "more.go:57", after := #[], guard := none }, { dst := some 102, op := Go.Op.fieldAddr 26 (Go.Operand.tmp 3) 6, type := 0, pos := "more.go:57", after := #[], guard := none }, { dst := some 103, op := Go.Op.load 24 (Go.Operand.tmp 102), type := 24, pos := "more.go:57", after := #[{ on := 1, ground := Go.Ground.data }], guard := none }, { dst := some 104, op := Go.Op.call { callee := Go.Callee.builtin Go.Builtin.append, args := #[Go.Operand.tmp 101, Go.Operand.tmp 103], argTypes := #[24, 24] }, type := 24, pos := "more.go:57", after := #[{ on := 0, ground := Go.Ground.data }, { on := 2, ground := Go.Ground.data }], guard := none }, { dst := some 105, op := Go.Op.fieldAddr 26 (Go.Operand.tmp 3) 6, type := 0, pos := "more.go:57", after := #[], guard := none }, { dst := some 106, op := Go.Op.load 24 (Go.Operand.tmp 105), type := 24, pos := "more.go:57", after := #[{ on := 4, ground := Go.Ground.data }], guard := none }, { dst := some 107, op := Go.Op.move (Go.Operand.tmp 16), type := 3, pos := "more.go:57", after := #[], guard := none }, { dst := some 108, op := Go.Op.indexAddr 24 (Go.Operand.tmp 106) (Go.Operand.tmp 107), type := 0, pos := "more.go:57", after := #[{ on := 5, ground := Go.Ground.data }, { on := 6, ground := Go.Ground.data }], guard := none }, { dst := some 109, op := Go.Op.load 38 (Go.Operand.tmp 108), type := 38, pos := "more.go:57", after := #[{ on := 7, ground := Go.Ground.data }], guard := none }, { dst := some 110, op := Go.Op.buildSlice 24 1 #[(0, Go.Operand.tmp 109)], type := 24, pos := "more.go:57", after := #[{ on := 8, ground := Go.Ground.data }], guard := none }, { dst := some 111, op := Go.Op.call { callee := Go.Callee.builtin Go.Builtin.append, args := #[Go.Operand.tmp 104, Go.Operand.tmp 110], argTypes := #[24, 24] }, type := 24, pos := "more.go:57", after := #[{ on := 3, ground := Go.Ground.data }, { on := 9, ground := Go.Ground.data }, { on := 3, ground := Go.Ground.chain }], guard := none }, { dst := some 112, op := Go.Op.fieldAddr 26 (Go.Operand.tmp 13) 6, type := 0, pos := "more.go:57", after := #[{ on := 0, ground := Go.Ground.phase }, { on := 1, ground := Go.Ground.phase }, { on := 2, ground := Go.Ground.phase }, { on := 3, ground := Go.Ground.phase }, { on := 4, ground := Go.Ground.phase }, { on := 5, ground := Go.Ground.phase }, { on := 6, ground := Go.Ground.phase }, { on := 7, ground := Go.Ground.phase }, { on := 8, ground := Go.Ground.phase }, { on := 9, ground := Go.Ground.phase }, { on := 10, ground := Go.Ground.phase }], guard := none }, { dst := none, op := Go.Op.store 24 (Go.Operand.tmp 112) (Go.Operand.tmp 111), type := 0, pos := "more.go:57", after := #[{ on := 11, ground := Go.Ground.data }, { on := 10, ground := Go.Ground.data }, { on := 10, ground := Go.Ground.chain }, { on := 0, ground := Go.Ground.phase }, { on := 1, ground := Go.Ground.phase }, { on := 2, ground := Go.Ground.phase }, { on := 3, ground := Go.Ground.phase }, { on := 4, ground := Go.Ground.phase }, { on := 5, ground := Go.Ground.phase }, { on := 6, ground := Go.Ground.phase }, { on := 7, ground := Go.Ground.phase }, { on := 8, ground := Go.Ground.phase }, { on := 9, ground := Go.Ground.phase }, { on := 10, ground := Go.Ground.phase }], guard := none }] : Array Oper).toList.dropLast vs a0) 112 = .pointer (some ⟨gy, 6, none⟩) := (puts_in hs (by kernel_rfl)).trans h12
    generalize putsOf (#[{ dst := some 101, op := Go.Op.buildSlice 24 0 #[], type := 24, pos := "more.go:57", after := #[], guard := none }, { dst := some 102, op := Go.Op.fieldAddr 26 (Go.Operand.tmp 3) 6, type := 0, pos := "more.go:57", after := #[], guard := none }, { dst := some 103, op := Go.Op.load 24 (Go.Operand.tmp 102), type := 24, pos := "more.go:57", after := #[{ on := 1, ground := Go.Ground.data }], guard := none }, { dst := some 104, op := Go.Op.call { callee := Go.Callee.builtin Go.Builtin.append, args := #[Go.Operand.tmp 101, Go.Operand.tmp 103], argTypes := #[24, 24] }, type := 24, pos := "more.go:57", after := #[{ on := 0, ground := Go.Ground.data }, { on := 2, ground := Go.Ground.data }], guard := none }, { dst := some 105, op := Go.Op.fieldAddr 26 (Go.Operand.tmp 3) 6, type := 0, pos := "more.go:57", after := #[], guard := none }, { dst := some 106, op := Go.Op.load 24 (Go.Operand.tmp 105), type := 24, pos := "more.go:57", after := #[{ on := 4, ground := Go.Ground.data }], guard := none }, { dst := some 107, op := Go.Op.move (Go.Operand.tmp 16), type := 3, pos := "more.go:57", after := #[], guard := none }, { dst := some 108, op := Go.Op.indexAddr 24 (Go.Operand.tmp 106) (Go.Operand.tmp 107), type := 0, pos := "more.go:57", after := #[{ on := 5, ground := Go.Ground.data }, { on := 6, ground := Go.Ground.data }], guard := none }, { dst := some 109, op := Go.Op.load 38 (Go.Operand.tmp 108), type := 38, pos := "more.go:57", after := #[{ on := 7, ground := Go.Ground.data }], guard := none }, { dst := some 110, op := Go.Op.buildSlice 24 1 #[(0, Go.Operand.tmp 109)], type := 24, pos := "more.go:57", after := #[{ on := 8, ground := Go.Ground.data }], guard := none }, { dst := some 111, op := Go.Op.call { callee := Go.Callee.builtin Go.Builtin.append, args := #[Go.Operand.tmp 104, Go.Operand.tmp 110], argTypes := #[24, 24] }, type := 24, pos := "more.go:57", after := #[{ on := 3, ground := Go.Ground.data }, { on := 9, ground := Go.Ground.data }, { on := 3, ground := Go.Ground.chain }], guard := none }, { dst := some 112, op := Go.Op.fieldAddr 26 (Go.Operand.tmp 13) 6, type := 0, pos := "more.go:57", after := #[{ on := 0, ground := Go.Ground.phase }, { on := 1, ground := Go.Ground.phase }, { on := 2, ground := Go.Ground.phase }, { on := 3, ground := Go.Ground.phase }, { on := 4, ground := Go.Ground.phase }, { on := 5, ground := Go.Ground.phase }, { on := 6, ground := Go.Ground.phase }, { on := 7, ground := Go.Ground.phase }, { on := 8, ground := Go.Ground.phase }, { on := 9, ground := Go.Ground.phase }, { on := 10, ground := Go.Ground.phase }], guard := none }, { dst := none, op := Go.Op.store 24 (Go.Operand.tmp 112) (Go.Operand.tmp 111), type := 0, pos := "more.go:57", after := #[{ on := 11, ground := Go.Ground.data }, { on := 10, ground := Go.Ground.data }, { on := 10, ground := Go.Ground.chain }, { on := 0, ground := Go.Ground.phase }, { on := 1, ground := Go.Ground.phase }, { on := 2, ground := Go.Ground.phase }, { on := 3, ground := Go.Ground.phase }, { on := 4, ground := Go.Ground.phase }, { on := 5, ground := Go.Ground.phase }, { on := 6, ground := Go.Ground.phase }, { on := 7, ground := Go.Ground.phase }, { on := 8, ground := Go.Ground.phase }, { on := 9, ground := Go.Ground.phase }, { on := 10, ground := Go.Ground.phase }], guard := none }] : Array Oper).toList.dropLast vs a0 = fr at *
    clear h11 h12 hv hQ
    unfold slot at q11 q12
    refine ⟨rfl, ?_⟩
    unfold Oper.wp
    go_simp
    exact hq
end Go.Proofs.Ytdkjdiamekfbdaa
