/-
  THE WALK OF quadrigalaw04.RecordRights, put together: it returns true, and writes nothing that was there.
-/
import Derived.Test.YtbljeagjlmdlhaaDoorRcRightsSmall
import Derived.Test.YtbljeagjlmdlhaaDoorRcRightsTt
import Derived.Test.YtbljeagjlmdlhaaDoorRcRightsTf
import Derived.Test.YtbljeagjlmdlhaaDoorRcRightsFt
import Derived.Test.YtbljeagjlmdlhaaDoorRcRightsFf
namespace Go.Proofs.YtbljeagjlmdlhaaDoor
open Go.RowKit

theorem recordRights_walk (ak ag ax ap aq au : Int) (akey asb asa : ByteArray) (ahb aha : Bool) (bk bg bt bp bq bu : Int) (bkey bsb bsa : ByteArray) (bhb bha : Bool) (key vs : ByteArray) (vh : Bool) (w : World) (hn : NameAt w) :
    Calls Tryd.prog 3 #[.agg #[.int .i64 ak, .int .i64 ag, .int .i64 ax, .int .i64 ap, .int .i64 aq, .string akey, .bool ahb, .string asb, .bool aha, .string asa, .int .i64 au], .agg #[.int .i64 bk, .int .i64 bg, .int .i64 bt, .int .i64 bp, .int .i64 bq, .string bkey, .bool bhb, .string bsb, .bool bha, .string bsa, .int .i64 bu], .string key, .agg #[.bool vh, .string vs]] w fun e w' => e = .returned (.bool true) ∧ Below w.heap.size w w' := by
  cases hGa : rcGreat akey asb asa
  · cases hGb : rcGreat bkey bsb bsa
    · by_cases hk : (100 : Int) < (key.size : Int)
      · exact rights_key ak ag ax ap aq au akey asb asa ahb aha bk bg bt bp bq bu bkey bsb bsa bhb bha key vs vh w hn hGa hGb hk
      · have hk : (key.size : Int) ≤ 100 := by omega
        by_cases hv : (100 : Int) < (vs.size : Int)
        · exact rights_val ak ag ax ap aq au akey asb asa ahb aha bk bg bt bp bq bu bkey bsb bsa bhb bha key vs vh w hn hGa hGb hk hv
        · have hv : (vs.size : Int) ≤ 100 := by omega
          cases hX : rcOk ak ag ax ap aq akey ahb asb aha asa au
          · cases hV : vlOk ahb asb
            · exact rights_ff ak ag ax ap aq au akey asb asa ahb aha bk bg bt bp bq bu bkey bsb bsa bhb bha key vs vh w hn hGa hGb hk hv hX hV
            · exact rights_ft ak ag ax ap aq au akey asb asa ahb aha bk bg bt bp bq bu bkey bsb bsa bhb bha key vs vh w hn hGa hGb hk hv hX hV
          · cases hV : vlOk ahb asb
            · exact rights_tf ak ag ax ap aq au akey asb asa ahb aha bk bg bt bp bq bu bkey bsb bsa bhb bha key vs vh w hn hGa hGb hk hv hX hV
            · exact rights_tt ak ag ax ap aq au akey asb asa ahb aha bk bg bt bp bq bu bkey bsb bsa bhb bha key vs vh w hn hGa hGb hk hv hX hV
    · exact rights_b ak ag ax ap aq au akey asb asa ahb aha bk bg bt bp bq bu bkey bsb bsa bhb bha key vs vh w hn hGa hGb
  · exact rights_a ak ag ax ap aq au akey asb asa ahb aha bk bg bt bp bq bu bkey bsb bsa bhb bha key vs vh w hn hGa
end Go.Proofs.YtbljeagjlmdlhaaDoor
