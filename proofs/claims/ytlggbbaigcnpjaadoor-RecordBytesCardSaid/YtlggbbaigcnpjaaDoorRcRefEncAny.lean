/-
  THE CONTRACT OF quadrigaref04.Encode, of any right record.
-/
import Derived.Test.YtlggbbaigcnpjaaDoorRcRefEncO
import Derived.Test.YtlggbbaigcnpjaaDoorRcRefEnc2
import Derived.Test.YtlggbbaigcnpjaaDoorRcRefEnc3
import Derived.Test.YtlggbbaigcnpjaaDoorRcRefEnc4
namespace Go.Proofs.YtlggbbaigcnpjaaDoor
open Go.RowKit

theorem refEncode_any (k g t p pg u : Int) (key sb sa : ByteArray) (hb ha : Bool) (w : World) (h : rcOk k g t p pg key hb sb ha sa u = true) :
    Calls Tryd.prog 11 #[.agg #[.int .i64 k, .int .i64 g, .int .i64 t, .int .i64 p, .int .i64 pg, .string key, .bool hb, .string sb, .bool ha, .string sa, .int .i64 u]] w
      fun e w' => e = .returned (.string (encStr k t p pg key hb sb ha sa u)) ∧ Below w.heap.size w w' := by
  by_cases e2 : k = 2
  · subst e2; exact refEncode_2 g t p pg u key sb sa hb ha w h
  · by_cases e3 : k = 3
    · subst e3; exact refEncode_3 g t p pg u key sb sa hb ha w h
    · by_cases e4 : k = 4
      · subst e4; exact refEncode_4 g t p pg u key sb sa hb ha w h
      · exact refEncode_o k g t p pg u key sb sa hb ha w h e2 e3 e4
end Go.Proofs.YtlggbbaigcnpjaaDoor
