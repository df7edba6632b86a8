/-
  What the laws of layer 7 begin with.
-/
import Derived.Test.YtdkjdiamekfbdaaStLess
import Derived.Test.YtdkjdiamekfbdaaStShown
import Derived.Test.YtdkjdiamekfbdaaSteady
namespace Go.Proofs.Ytdkjdiamekfbdaa
open Go.RowKit
open Rf (Snp)
open St (Ses Opn Sta)

theorem small_fresh : Small St.fresh := ⟨by decide, by decide, by decide, by simp [St.fresh]⟩
/-- A catalogue put into a box. -/
def stput (w : World) (g : Nat) (s : Sta) (q : Pls) : World := ((((((w.setCell ⟨g, 0, none⟩ (.int .i64 s.version)).setCell ⟨g, 1, none⟩ (.int .i64 s.next)).setCell ⟨g, 2, none⟩ (.int .i64 s.keep)).setCell ⟨g, 3, none⟩ (.int .i64 s.quota)).setCell ⟨g, 4, none⟩ (.slice q.a1 q.n1 q.c1)).setCell ⟨g, 5, none⟩ (.slice q.a2 q.n2 q.c2)).setCell ⟨g, 6, none⟩ (.slice q.a3 q.n3 q.c3)
theorem stput_blk {w : World} {g : Nat} {t : TypeId} {s s' : Sta} {q q' : Pls} (h : Blk w g t (stblk s q)) : Blk (stput w g s' q') g t (stblk s' q') ∧ w.grownBy (stput w g s' q') (some g) := blk_set7 h _ _ _ _ _ _ _
end Go.Proofs.Ytdkjdiamekfbdaa
