/-
  A small number is one byte.
-/
import Derived.Test.YtdkjdiamekfbdaaViPlain
namespace Go.Proofs.Ytdkjdiamekfbdaa
open Vi (put)

theorem put_one {x : Nat} (h : x < 128) : put x = [x] := by
  unfold put
  rw [show (9 : Nat) = 8 + 1 from rfl]
  simp [Vi.putF, h]

end Go.Proofs.Ytdkjdiamekfbdaa
