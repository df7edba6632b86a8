/-
  The document's layer 7 on lists: a catalogue; which may be, what is in it, who is kept.
-/
import Derived.Test.YtdkjdiamekfbdaaRfPlain
import Derived.Test.YtdkjdiamekfbdaaCmRowP
import Derived.IntWalk
namespace Go.Proofs.Ytdkjdiamekfbdaa
namespace St
open Rf (Snp)
open Cm (inR row)

structure Ses where
  client : Int
  seq : Int
  code : Int
  n : Int
deriving DecidableEq
structure Opn where
  set : Int
  client : Int
deriving DecidableEq
structure Sta where
  version : Int
  next : Int
  keep : Int
  quota : Int
  sess : List Ses
  opens : List Opn
  snaps : List Snp
deriving DecidableEq
def fresh : Sta := ⟨1, 1, 0, 0, [], [], []⟩

/-- Whether a snapshot may be; m: the greatest number that it may have. -/
def snapOk (x : Snp) (m v : Int) : Bool := row x.chunks && (inR x.id 1 m && (inR x.set 1 8 && ((!x.held || decide (2 ≤ v)) && (decide (x.tag.length ≤ 16) && (decide (x.tag = []) || decide (3 ≤ v))))))
def sesOk (x : Ses) : Bool := inR x.client 1 8 && (inR x.seq 0 1048576 && (inR x.code 0 99 && inR x.n 0 1048576))
def opnOk (x : Opn) : Bool := inR x.set 1 8 && inR x.client 1 8
def rises (p : Option Int) (x : Int) : Bool := p.all fun y => decide (y < x)
def sesGo : Option Int → List Ses → Bool
  | _, [] => true
  | p, x :: l => (sesOk x && rises p x.client) && sesGo (some x.client) l
def opnGo : Option Int → List Opn → Bool
  | _, [] => true
  | p, x :: l => (opnOk x && rises p x.set) && opnGo (some x.set) l
def snpGo (m v : Int) : Option Int → List Snp → Bool
  | _, [] => true
  | p, x :: l => (snapOk x m v && rises p x.id) && snpGo m v (some x.id) l
def headOk (s : Sta) (v : Int) : Bool := inR s.version 1 3 && (inR s.next 1 1048576 && (inR s.keep 0 8 && (inR s.quota 0 64 && ((decide (s.quota = 0) || decide (3 ≤ v)) && decide (s.snaps.length ≤ 16)))))
def okS (s : Sta) (v : Int) : Bool := headOk s v && (sesGo none s.sess && (opnGo none s.opens && snpGo (IntKind.i64.wrap (s.next - 1)) v none s.snaps))
def mayS (s : Sta) (v : Int) : Nat := if !inR v 1 3 then 1 else if okS s v then 0 else 6

/-- The first place of which p holds, or -1. -/
def place {α : Type} (p : α → Bool) (l : List α) : Int := match l.findIdx? p with
  | some i => i
  | none => -1
def clientS (s : Sta) (c : Int) : Int := place (fun x => x.client == c) s.sess
def openedS (s : Sta) (c : Int) : Int := place (fun x => x.set == c) s.opens
def snapS (s : Sta) (c : Int) : Int := place (fun x => x.id == c) s.snaps
/-- How many places behind it have its set. -/
def behind (l : List Snp) (k : Nat) (set : Int) : Nat := (l.drop (k + 1)).countP fun x => x.set == set
def keptS (s : Sta) (at' : Int) : Bool := match s.snaps[at'.toNat]? with
  | some x => decide (0 ≤ at') && decide ((behind s.snaps at'.toNat x.set : Int) < s.keep)
  | none => false

theorem snapOk_mono {x : Snp} {m v v' : Int} (h : snapOk x m v = true) (hv : v ≤ v') : snapOk x m v' = true := by
  unfold snapOk at *
  simp only [Bool.and_eq_true, Bool.or_eq_true, decide_eq_true_eq, Bool.not_eq_true'] at *
  obtain ⟨h1, h2, h3, h4, h5, h6⟩ := h
  refine ⟨h1, h2, h3, ?_, h5, ?_⟩
  · rcases h4 with h4 | h4
    · exact .inl h4
    · exact .inr (by omega)
  · rcases h6 with h6 | h6
    · exact .inl h6
    · exact .inr (by omega)
theorem snpGo_mono {m v v' : Int} (hv : v ≤ v') : ∀ {l : List Snp} {p : Option Int}, snpGo m v p l = true → snpGo m v' p l = true
  | [], _, _ => rfl
  | x :: l, p, h => by
    unfold snpGo at *
    simp only [Bool.and_eq_true] at *
    exact ⟨⟨snapOk_mono h.1.1 hv, h.1.2⟩, snpGo_mono hv h.2⟩
theorem okS_mono {s : Sta} {v v' : Int} (h : okS s v = true) (hv : v ≤ v') : okS s v' = true := by
  unfold okS headOk at *
  simp only [Bool.and_eq_true, Bool.or_eq_true, decide_eq_true_eq] at *
  obtain ⟨⟨h1, h2, h3, h4, h5, h6⟩, h7, h8, h9⟩ := h
  refine ⟨⟨h1, h2, h3, h4, ?_, h6⟩, h7, h8, snpGo_mono hv h9⟩
  rcases h5 with h5 | h5
  · exact .inl h5
  · exact .inr (by omega)
theorem place_nil {α : Type} (p : α → Bool) : place p [] = -1 := rfl
end St
end Go.Proofs.Ytdkjdiamekfbdaa
