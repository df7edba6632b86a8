/-
  What the walk of StateSame stands on.
-/
import Derived.Test.YtdkjdiamekfbdaaStLaw
import Derived.Test.YtdkjdiamekfbdaaChg
