/-
  The walks of the landed state, all of them.
-/
import Derived.Test.YtdkjdiamekfbdaaStPMay
import Derived.Test.YtdkjdiamekfbdaaStPFind
import Derived.Test.YtdkjdiamekfbdaaStPSame
namespace Go.Proofs.Ytdkjdiamekfbdaa
theorem zero_st : #[Value.int .i64 0, .int .i64 0, .int .i64 0, .int .i64 0, .slice none 0 0, .slice none 0 0, .slice none 0 0] = stblk ⟨0, 0, 0, 0, [], [], []⟩ noPls := rfl
end Go.Proofs.Ytdkjdiamekfbdaa
