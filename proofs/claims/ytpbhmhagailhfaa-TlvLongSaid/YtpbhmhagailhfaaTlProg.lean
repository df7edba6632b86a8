/-
  The walks of the landed tlv.May, Put, Take, Split, together.
-/
import Derived.Test.YtpbhmhagailhfaaTlPMay
import Derived.Test.YtpbhmhagailhfaaTlPPut
import Derived.Test.YtpbhmhagailhfaaTlPTake
import Derived.Test.YtpbhmhagailhfaaTlPSplit
import Derived.Test.YtpbhmhagailhfaaTlRPut
import Derived.Test.YtpbhmhagailhfaaTlSplit
import Derived.Test.YtpbhmhagailhfaaTlRTake
