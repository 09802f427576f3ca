/-
  WHAT THE WALK OF quadrigaref04.Decode USES.
-/
import Derived.Test.YtlggbbaigcnpjaaDoorRcRt
import Derived.Test.YtlggbbaigcnpjaaDoorRcRefEncAny
import Derived.Test.YtlggbbaigcnpjaaDoorRcRefRight
