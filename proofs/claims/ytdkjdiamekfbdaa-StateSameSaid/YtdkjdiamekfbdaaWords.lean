/-
  Words of this seat's texts for memory: a slice that reads as a list; what a fresh row of bytes is.
-/
import Derived.Test.YtdkjdiamekfbdaaChecked
import Derived.WalkKit
import Derived.Lib.Hide
import Derived.Deep.Draws
import Derived.Laws.BytesArg
namespace Go.Proofs.Ytdkjdiamekfbdaa
open Go.RowKit

theorem ret_int {k : IntKind} {a b : Int} (h : a = b) : Ending.returned (.int k a) = .returned (.int k b) := by rw [h]

/-- A number as a byte's value; a list of them. -/
def bv (c : Nat) : Value := .int .u8 (c : Int)
def bvs (l : List Nat) : List Value := l.map bv
theorem bvs_len (l : List Nat) : (bvs l).length = l.length := by simp [bvs]
theorem bvs_one (l : List Nat) : ∀ u ∈ bvs l, u.oneCell' = true := by
  intro u hu
  obtain ⟨c, _, rfl⟩ := List.mem_map.1 hu
  rfl
theorem bvs_app (l m : List Nat) : bvs (l ++ m) = bvs l ++ bvs m := by simp [bvs]

/-- The cells from 'ad' on are 'xs'. -/
def CellsAt (w : World) (ad : Addr) (xs : List Value) : Prop := ∀ j u, xs[j]? = some u → w.cell? (ad.add j) = some u

/-- A slice's address and length read as the cells 'xs', which lie below block B. -/
def Rd (w : World) (B size : Nat) (A : Option Addr) (n : Nat) (xs : List Value) : Prop :=
  xs.length = n * size ∧ (n = 0 ∨ ∃ ad : Addr, A = some ad ∧ ad.block < B ∧ CellsAt w ad xs)

theorem add_block (a : Addr) (n : Nat) : (a.add n).block = a.block := by unfold Addr.add; split <;> rfl
theorem add_twice (a : Addr) (i j : Nat) : (a.add i).add j = a.add (i + j) := by
  unfold Addr.add
  by_cases hi : i = 0
  · subst hi; simp
  · by_cases hj : j = 0
    · subst hj; simp [hi]
    · simp [hi, hj, Nat.add_assoc]

section
variable {w w' : World} {B B' size n : Nat} {A : Option Addr} {xs : List Value}
theorem Rd.nil (w : World) (B size : Nat) (A : Option Addr) : Rd w B size A 0 [] := ⟨by simp, .inl rfl⟩
theorem Rd.get (h : Rd w B 1 A n xs) {k : Nat} (hk : k < n) : ∃ (ad : Addr) (u : Value), A = some ad ∧ ad.block < B ∧ xs[k]? = some u ∧ w.cell? (ad.add k) = some u := by
  obtain ⟨hl, h0 | ⟨ad, hA, hb, hc⟩⟩ := h
  · omega
  · have hlt : k < xs.length := by omega
    exact ⟨ad, xs[k], hA, hb, List.getElem?_eq_getElem hlt, hc k _ (List.getElem?_eq_getElem hlt)⟩
theorem Rd.keep (h : Rd w B size A n xs) (hk : ∀ p : Addr, p.block < B → w'.cell? p = w.cell? p) : Rd w' B size A n xs := by
  obtain ⟨hl, h0 | ⟨ad, hA, hb, hc⟩⟩ := h
  · exact ⟨hl, .inl h0⟩
  · exact ⟨hl, .inr ⟨ad, hA, hb, fun j u hu => by rw [hk _ (by rw [add_block]; exact hb)]; exact hc j u hu⟩⟩
theorem Rd.more (h : Rd w B size A n xs) (hB : B ≤ B') : Rd w B' size A n xs := by
  obtain ⟨hl, h0 | ⟨ad, hA, hb, hc⟩⟩ := h
  · exact ⟨hl, .inl h0⟩
  · exact ⟨hl, .inr ⟨ad, hA, Nat.lt_of_lt_of_le hb hB, hc⟩⟩
theorem Rd.below (h : Rd w B size A n xs) (hb : Below B w w') : Rd w' B size A n xs := h.keep fun _ hp => hb.cell hp
theorem Rd.drewN (h : Rd w B size A n xs) (k : Nat) : Rd (w.drewN k) B size A n xs := h
theorem Rd.alloc (h : Rd w B size A n xs) (hB : B ≤ w.heap.size) (o : Obj) : Rd (w.alloc o) B size A n xs :=
  h.keep fun p hp => World.cell?_alloc_lt w o p (Nat.lt_of_lt_of_le hp hB)
theorem Rd.cut (h : Rd w B size A n xs) {k cap : Nat} (hk : k ≤ n) (hc : n ≤ cap) :
    Rd w B size (if cap = k then A else A.map (·.add (k * size))) (n - k) (xs.drop (k * size)) := by
  obtain ⟨hl, h0 | ⟨ad, hA, hb, hcell⟩⟩ := h
  · exact ⟨by rw [List.length_drop, hl, Nat.sub_mul], .inl (by omega)⟩
  · refine ⟨by rw [List.length_drop, hl, Nat.sub_mul], ?_⟩
    by_cases hn : n - k = 0
    · exact .inl hn
    · rw [if_neg (by omega), hA]
      refine .inr ⟨ad.add (k * size), rfl, by rw [add_block]; exact hb, fun j u hu => ?_⟩
      rw [add_twice]
      rw [List.getElem?_drop] at hu
      exact hcell _ u hu
theorem Rd.take (h : Rd w B size A n xs) {k : Nat} (hk : k ≤ n) : Rd w B size A k (xs.take (k * size)) := by
  obtain ⟨hl, h0 | ⟨ad, hA, hb, hc⟩⟩ := h
  · exact ⟨by rw [List.length_take, hl, Nat.min_eq_left (Nat.mul_le_mul_right _ hk)], .inl (by omega)⟩
  · refine ⟨by rw [List.length_take, hl, Nat.min_eq_left (Nat.mul_le_mul_right _ hk)], .inr ⟨ad, hA, hb, fun j u hu => ?_⟩⟩
    rw [List.getElem?_take] at hu
    split at hu
    · exact hc j u hu
    · cases hu
theorem Rd.of_own {base : Nat} {e : TypeId} {c : Nat} (h : w.ownsRow base e size (.slice A n c) n xs) : Rd w w.heap.size size A n xs := by
  refine ⟨h.1, ?_⟩
  rcases h.2 with ⟨_, h0⟩ | ⟨g, cap, cur, hv, _, hg, _⟩
  · exact .inl h0
  · injection hv with hA _ _
    subst hA
    exact .inr ⟨_, rfl, (Array.getElem?_eq_some_iff.1 hg).1, h.cells (g := g) rfl⟩
end

theorem Rd.byte {w : World} {B n : Nat} {A : Option Addr} {bs : List Nat} (h : Rd w B 1 A n (bvs bs)) (hb : ∀ c ∈ bs, c < 256) {k : Nat} (hk : k < n) :
    ∃ (ad : Addr) (c : Nat), A = some ad ∧ c < 256 ∧ bs.drop k = c :: bs.drop (k + 1) ∧ bs[k]? = some c ∧ w.cell? (ad.add k) = some (.int .u8 (c : Int)) := by
  obtain ⟨ad, u, hA, _, hu, hc⟩ := h.get hk
  have hl : k < bs.length := by have := h.1; rw [bvs_len] at this; omega
  have e : u = .int .u8 ((bs[k] : Nat) : Int) := by
    have : (bvs bs)[k]? = some (bv bs[k]) := by simp [bvs, hl]
    rw [this] at hu
    injection hu with hu
    exact hu.symm
  exact ⟨ad, bs[k], hA, hb _ (List.getElem_mem hl), List.drop_eq_getElem_cons hl, List.getElem?_eq_getElem hl, by rw [hc, e]⟩

theorem slice_of_own {w : World} {base : Nat} {e : TypeId} {size n : Nat} {v : Value} {xs : List Value} (h : w.ownsRow base e size v n xs) : ∃ (A : Option Addr) (c : Nat), v = .slice A n c ∧ n ≤ c ∧ c ≤ 9223372036854775807 := by
  rcases h.2 with ⟨h', h0⟩ | ⟨g, cap, _, h', _, _, h1, h2, _⟩
  · subst h0; exact ⟨none, 0, h', Nat.le_refl _, by omega⟩
  · exact ⟨_, _, h', h1, by unfold maxLen at h2; omega⟩

theorem own_below {w w' : World} {base : Nat} {e : TypeId} {size n : Nat} {v : Value} {xs : List Value} (h : w.ownsRow base e size v n xs) (hb : Below w.heap.size w w') : w'.ownsRow base e size v n xs := by
  refine ⟨h.1, ?_⟩
  rcases h.2 with hn | ⟨g, cap, cur, hv, hbg, hg, rest⟩
  · exact .inl hn
  · exact .inr ⟨g, cap, cur, hv, hbg, by rw [hb.block g (Array.getElem?_eq_some_iff.1 hg).1]; exact hg, rest⟩

/-- What comes back is a row of bytes in memory of the call's own. -/
def NewBytes (w : World) (bs : List Nat) (e : Ending) (w' : World) : Prop :=
  ∃ v, e = .returned v ∧ w'.ownsRow w.heap.size 5 1 v bs.length (bvs bs) ∧ Below w.heap.size w w'

/-- .. beside an error's number. -/
def NewPair (w : World) (bs : List Nat) (err : Int) (e : Ending) (w' : World) : Prop :=
  ∃ v, e = .returned (.tuple #[v, .int .i64 err]) ∧ w'.ownsRow w.heap.size 5 1 v bs.length (bvs bs) ∧ Below w.heap.size w w'

theorem results4 {fn : Func} {t u v x : Tmp} (h : fn.results = #[.tmp t, .tmp u, .tmp v, .tmp x]) (tmps : Array Value) (P : Program) (w : World) :
    (results fn tmps).run P w = .ok (.tuple #[tmps.getD t undef, tmps.getD u undef, tmps.getD v undef, tmps.getD x undef]) w := by simp [results, h]
theorem ret_tuple {a b : Array Value} (h : a = b) : Ending.returned (.tuple a) = .returned (.tuple b) := by rw [h]

theorem byte_info : (Try.prog.info? 5).map (fun i => (i.zero, i.size, i.bytes)) = some (some (.int .u8 0), 1, 1) := by kernel_rfl
theorem cell_new (w : World) (x : Value) (t : TypeId) : ∀ j u, [x][j]? = some u → (w.alloc (.cells #[x] t)).cell? ((⟨w.heap.size, 0, none⟩ : Addr).add j) = some u := by
  intro j u hj
  cases j with
  | zero => simp at hj; subst hj; simp [Addr.add]
  | succ j => simp at hj

/-- A slice that was just laid down. -/
theorem rd_new (w : World) (xs : List Value) (t : TypeId) : Rd (w.alloc (.cells xs.toArray t)) (w.heap.size + 1) 1 (some ⟨w.heap.size, 0, none⟩) xs.length xs :=
  ⟨by simp, .inr ⟨_, rfl, by simp, fun j u hu => by
    have hadd : (⟨w.heap.size, 0, none⟩ : Addr).add j = ⟨w.heap.size, j, none⟩ := by unfold Addr.add; split <;> simp_all
    rw [hadd, cell_of_row (w.alloc (.cells xs.toArray t)) w.heap.size j xs.toArray t (0, 0) (heap_alloc_new w _)]
    simpa using hu⟩⟩

/-- A value that is a slice of these bytes. -/
def Txt (bs : List Nat) (v : Value) (w : World) : Prop := ∃ A n c, v = .slice A n c ∧ Rd w w.heap.size 1 A n (bvs bs)
theorem Txt.below {bs : List Nat} {v : Value} {w w' : World} (hb : Below w.heap.size w w') (h : Txt bs v w) : Txt bs v w' := by
  obtain ⟨A, n, c, hv, hr⟩ := h
  exact ⟨A, n, c, hv, (hr.below hb).more hb.size⟩
theorem Txt.of_new {bs : List Nat} {v : Value} {w : World} {base : Nat} {e : TypeId} (h : w.ownsRow base e 1 v bs.length (bvs bs)) : Txt bs v w := by
  have hv : ∃ A c, v = .slice A bs.length c := by
    rcases h.2 with ⟨h, h0⟩ | ⟨g, cap, _, h, _⟩
    · rw [h0]; exact ⟨none, 0, h⟩
    · exact ⟨_, _, h⟩
  obtain ⟨A, c, rfl⟩ := hv
  exact ⟨A, bs.length, c, rfl, Rd.of_own h⟩

/-- Where a slice begins that is cut at k. -/
def cutAt (A : Option Addr) (c size k : Nat) : Option Addr := if c = k then A else A.map (·.add (k * size))
theorem Rd.from_ {w : World} {B size n k c : Nat} {A : Option Addr} {xs : List Value} (h : Rd w B size A n xs) (hk : k ≤ n) (hc : n ≤ c) : Rd w B size (cutAt A c size k) (n - k) (xs.drop (k * size)) := h.cut hk hc
theorem Rd.bytes_from {w : World} {B n k c : Nat} {A : Option Addr} {bs : List Nat} (h : Rd w B 1 A n (bvs bs)) (hk : k ≤ n) (hc : n ≤ c) : Rd w B 1 (cutAt A c 1 k) (n - k) (bvs (bs.drop k)) := by
  have h1 := h.from_ hk hc
  rw [Nat.mul_one] at h1
  simpa [bvs, List.map_drop] using h1
theorem Rd.bytes_to {w : World} {B n k : Nat} {A : Option Addr} {bs : List Nat} (h : Rd w B 1 A n (bvs bs)) (hk : k ≤ n) : Rd w B 1 A k (bvs (bs.take k)) := by
  have h1 := h.take hk
  rw [Nat.mul_one] at h1
  simpa [bvs, List.map_take] using h1
/-- 'b[k:]', the address under one name: laid ahead of a walk, for each world. -/
theorem run_from {P : Program} (t e : TypeId) (i : TypeInfo) (size : Nat) (ht : P.underlying t = some (.slice e)) (hi : P.info? e = some i) (hs : i.size = size) (A : Option Addr) (n c k : Nat) (kl : IntKind) (hk : k ≤ n) (w : World) :
    (Instr.sliceAt t (.slice A n c) (some (.int kl (k : Int))) none none).run P w = .ok (.slice (cutAt A c size k) (n - k) (c - k)) w := by
  have he : P.elem t = e := by simp [Program.elem, ht]
  have ht' : P.underlying t = some (.slice (P.elem t)) := by rw [he]; exact ht
  rw [run_sliceAt_slice w t _ _ _ _ ht', run_slice_l w t A n c ht' kl k (by omega) (by omega), he]
  simp [sizeOf, typeInfo, hi, hs, sliced, cutAt, Result.andThen]

/-! ### a block that is known whole -/
def Blk (w : World) (g : Nat) (t : TypeId) (cs : Array Value) : Prop := w.heap[g]? = some (.cells cs t (0, 0))
section
variable {w w' : World} {g : Nat} {t : TypeId} {cs : Array Value}
theorem Blk.lt (h : Blk w g t cs) : g < w.heap.size := (Array.getElem?_eq_some_iff.1 h).1
theorem Blk.cell (h : Blk w g t cs) (i : Nat) : w.cell? ⟨g, i, none⟩ = cs[i]? := cell_of_row w g i cs t (0, 0) h
theorem Blk.frozen (h : Blk w g t cs) (i : Nat) : w.frozen? ⟨g, i, none⟩ = false := by
  unfold Blk at h
  simp [World.frozen?, h]
theorem Blk.new (w : World) (cs : Array Value) (t : TypeId) : Blk (w.alloc (.cells cs t)) w.heap.size t cs := heap_alloc_new w _
theorem Blk.alloc (h : Blk w g t cs) (o : Obj) : Blk (w.alloc o) g t cs := (Below.heap_alloc w o g h.lt).trans h
theorem Blk.put (h : Blk w g t cs) (i : Nat) (u : Value) : Blk (w.setCell ⟨g, i, none⟩ u) g t (cs.setIfInBounds i u) := by
  unfold Blk at h ⊢
  simp [World.setCell, Array.getElem?_modify, h]
theorem Blk.far (h : Blk w g t cs) {p : Addr} (hp : g ≠ p.block) (u : Value) : Blk (w.setCell p u) g t cs := (Below.heap_setCell w p u g hp).trans h
theorem Blk.below {B : Nat} (h : Blk w g t cs) (hb : Below B w w') (hg : g < B) : Blk w' g t cs := (hb.block g hg).trans h
end
theorem grown_cell (w : World) (g i : Nat) (v : Value) : w.grownBy (w.setCell ⟨g, i, none⟩ v) (some g) :=
  ⟨rfl, rfl, rfl, by simp [World.setCell], fun k _ hk => Below.heap_setCell w ⟨g, i, none⟩ v k (by simpa using hk)⟩

/-! ### append onto a row of the call's own, whatever slice is put behind -/
section
variable {P : Program} (w : World)
theorem run_append_rd (base : Nat) (t ty e : TypeId) (i : TypeInfo) (z : Value) (size bytes : Nat) (ht : P.underlying t = some (.slice e)) (hi : P.info? e = some i) (hz : i.zero = some z)
    (hsize : i.size = size) (hby : i.bytes = bytes) (hzs : z.cells.size = size) (hsz : 0 < size) (v : Value) (n : Nat) (xs : List Value) (hown : w.ownsRow base e size v n xs)
    (B : Nat) (A : Option Addr) (m c : Nat) (news : List Value) (hr : Rd w B size A m news) (h1 : ∀ u ∈ news, u.oneCell' = true) (h63 : n + m ≤ maxLen) (hbytes : (n + m) * bytes ≤ 140737488355328) (hbase : base ≤ w.heap.size) :
    ∃ v' w', (Builtin.append_ #[t, t] ty #[v, .slice A m c]).run P w = .ok v' w' ∧ w'.ownsRow base e size v' (n + m) (xs ++ news) ∧ w.grownBy w' v.ownBlock := by
  obtain ⟨hl, hx⟩ := hr
  have hnone : m = 0 → news = [] := fun h => by subst h; exact List.eq_nil_of_length_eq_zero (by simpa using hl)
  cases A with
  | none =>
    have hm : m = 0 := by
      rcases hx with h | ⟨ad, h, _⟩
      · exact h
      · cases h
    obtain rfl := hnone hm
    subst hm
    refine ⟨v, w, ?_, by simpa using hown, World.grownBy.refl w _⟩
    rcases hown.2 with ⟨rfl, rfl⟩ | ⟨g, cap, cur, rfl, _, _, hnc, _⟩
    · simp [Builtin.append_, run_underlying ht, sizeOf, typeInfo, hi, Builtin.lenOf, Builtin.firstCells]
    · simp [Builtin.append_, run_underlying ht, sizeOf, typeInfo, hi, Builtin.lenOf, Builtin.firstCells, hnc, storeCells]
  | some ad =>
    have hc : CellsAt w ad news := by
      rcases hx with h | ⟨ad', h, _, hc⟩
      · obtain rfl := hnone h
        intro j u hu
        simp at hu
      · cases h; exact hc
    obtain ⟨v', w', hrun, h2, h3, _⟩ := run_append_own (P := P) w base t ty e i z size bytes ht hi hz hsize hby hzs hsz v n xs hown ad m c news hl hc h1 h63 hbytes hbase
    exact ⟨v', w', hrun, h2, h3⟩
theorem wpList_append_rd {ops : Array Oper} {rest : List Oper} {o : Oper} {a : Act} {Q : Exit → Act → World → Prop} (hgd : o.guard = none) (s x : Operand) (t : TypeId)
    (ho : o.op = .call { callee := .builtin .append, args := #[s, x], argTypes := #[t, t] })
    (base : Nat) (e : TypeId) (i : TypeInfo) (z : Value) (size bytes : Nat) (ht : P.underlying t = some (.slice e)) (hi : P.info? e = some i) (hz : i.zero = some z)
    (hsize : i.size = size) (hby : i.bytes = bytes) (hzs : z.cells.size = size) (hsz : 0 < size) (v : Value) (n : Nat) (xs : List Value) (hs : a.eval s = v) (hown : w.ownsRow base e size v n xs)
    (B : Nat) (A : Option Addr) (m c : Nat) (news : List Value) (hx : a.eval x = .slice A m c) (hr : Rd w B size A m news) (h1 : ∀ u ∈ news, u.oneCell' = true) (h63 : n + m ≤ maxLen) (hbytes : (n + m) * bytes ≤ 140737488355328) (hbase : base ≤ w.heap.size)
    (h : ∀ v' w', w'.ownsRow base e size v' (n + m) (xs ++ news) → w.grownBy w' v.ownBlock → wpList P ops Q rest (a.put o.dst v') w') : wpList P ops Q (o :: rest) a w := by
  refine wpList_plain hgd fun K hK => ?_
  obtain ⟨v', w', hrun, h2, h3⟩ := run_append_rd (P := P) w base t o.type e i z size bytes ht hi hz hsize hby hzs hsz v n xs hown B A m c news hr h1 h63 hbytes hbase
  unfold Oper.wp
  simp [execOp, ho, resolve, invoke, builtin, hs, hx, hrun, Result.andThen]
  exact hK _ _ (h v' w' h2 h3)
end

/-- Bytes as a text. -/
def strOf (l : List Nat) : ByteArray := ⟨(l.map UInt8.ofNat).toArray⟩
theorem strOf_inj {a b : List Nat} (ha : ∀ c ∈ a, c < 256) (hb : ∀ c ∈ b, c < 256) (h : strOf a = strOf b) : a = b := by
  have h1 : a.map UInt8.ofNat = b.map UInt8.ofNat := by
    have := congrArg (fun s : ByteArray => s.data.toList) h
    simpa [strOf] using this
  have h2 : (a.map UInt8.ofNat).map UInt8.toNat = (b.map UInt8.ofNat).map UInt8.toNat := by rw [h1]
  have h3 : ∀ l : List Nat, (∀ c ∈ l, c < 256) → (l.map UInt8.ofNat).map UInt8.toNat = l := by
    intro l hl
    rw [List.map_map]
    conv => rhs; rw [← List.map_id l]
    exact List.map_congr_left fun c hc => by simp [Nat.mod_eq_of_lt (hl c hc)]
  rw [h3 a ha, h3 b hb] at h2
  exact h2
theorem str_beq {a b : List Nat} (ha : ∀ c ∈ a, c < 256) (hb : ∀ c ∈ b, c < 256) : ((strOf a).toList == (strOf b).toList) = decide (a = b) := by
  by_cases h : a = b
  · subst h; simp
  · rw [decide_eq_false h, beq_eq_false_iff_ne]
    intro he
    unfold strOf at he
    rw [ByteArray.toList_mk, ByteArray.toList_mk] at he
    exact h (strOf_inj ha hb (by unfold strOf; rw [he]))
theorem strOf_size (l : List Nat) : (strOf l).size = l.length := by simp [strOf, ByteArray.size]

/-- 'string(b)', whatever slice of bytes. -/
theorem run_str {P : Program} (w : World) (src dst e : TypeId) (hs : P.underlying src = some (.slice e)) (he : P.underlying e = some (.int .u8)) (hd : P.underlying dst = some .string)
    {B : Nat} {A : Option Addr} {n : Nat} {bs : List Nat} (h : Rd w B 1 A n (bvs bs)) (c : Nat) : (convert src dst (.slice A n c)).run P w = .ok (.string (strOf bs)) w := by
  obtain ⟨hl, hx⟩ := h
  rw [bvs_len, Nat.mul_one] at hl
  have key : ∀ ad : Addr, CellsAt w ad (bvs bs) → (convert src dst (.slice (some ad) n c)).run P w = .ok (.string (strOf bs)) w := by
    intro ad hc
    have h1 : (loadCells ad n).run P w = .ok ((bs.map fun c : Nat => (c : Int)).map (Value.int .u8)).toArray w := by
      have h2 := run_loadCells_list (P := P) w ad (bvs bs) hc
      rw [bvs_len, hl] at h2
      rw [h2, List.map_map]; rfl
    rw [run_convert_bytes_string w src dst e _ n c hs he hd, run_bytesToString w ad n c _ h1, foldl_push_bytes, List.map_map]
    have e2 : (List.map ((fun n : Int => UInt8.ofNat n.toNat) ∘ fun c : Nat => (c : Int)) bs) = bs.map UInt8.ofNat := rfl
    rw [e2]
    simp [strOf, ByteArray.empty, ByteArray.emptyWithCapacity]
    rfl
  rcases hx with h0 | ⟨ad, rfl, _, hc⟩
  · subst h0
    have hb : bs = [] := List.eq_nil_of_length_eq_zero hl
    subst hb
    cases A with
    | none => rw [run_convert_bytes_nil w src e hs he 0 c dst hd]; rfl
    | some ad => exact key ad (fun j u hu => by simp [bvs] at hu)
  · exact key ad hc
/-- Two lists of what there is at each place. -/
theorem lists_of {α β : Type} {Q : Nat → α → β → Prop} : ∀ (n : Nat), (∀ i, i < n → ∃ a b, Q i a b) → ∃ (l : List α) (m : List β), l.length = n ∧ m.length = n ∧ ∀ i a b, l[i]? = some a → m[i]? = some b → Q i a b
  | 0, _ => ⟨[], [], rfl, rfl, fun i a b h => by simp at h⟩
  | n + 1, h => by
    obtain ⟨l, m, hl, hm, hq⟩ := lists_of n (fun i hi => h i (by omega))
    obtain ⟨a, b, hab⟩ := h n (by omega)
    refine ⟨l ++ [a], m ++ [b], by simp [hl], by simp [hm], fun i a' b' ha hb => ?_⟩
    by_cases hi : i < n
    · rw [List.getElem?_append_left (by omega)] at ha hb
      exact hq i a' b' ha hb
    · have hlen := (List.getElem?_eq_some_iff.1 ha).1
      rw [List.length_append, hl] at hlen
      simp only [List.length_cons, List.length_nil] at hlen
      obtain rfl : i = n := by omega
      rw [List.getElem?_append_right (by omega), hl, Nat.sub_self] at ha
      rw [List.getElem?_append_right (by omega), hm, Nat.sub_self] at hb
      simp at ha hb
      subst ha hb
      exact hab
end Go.Proofs.Ytdkjdiamekfbdaa
