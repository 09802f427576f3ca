/-
  A Write by which the power goes off.
-/
import Derived.Test.YtobgopiadfinbaaDvOff
import Derived.Test.YtobgopiadfinbaaDvWriteA
import Derived.Test.YtobgopiadfinbaaDvSyncA
namespace Go.Proofs.Ytobgopiadfinbaa
open Go.RowKit
section
variable {W : World} {D P L M n k : Nat} {uses left : Int} {las : List (List UInt8)} {f : Int → Option (List UInt8)}
theorem write_last (h : DevAt W D P L M n k false uses true 0 las f) (hu : 0 ≤ uses ∧ uses ≤ 1000000000) (i : Int) (v : Value) :
    Calls Try.prog 13 #[.pointer (some ⟨D, 0, none⟩), .int .i64 i, v] W fun e w' => e = .returned (.int .i64 6) ∧ DevAt w' D P L M n k true (uses + 1) true (-1) las f ∧ Fr3 P L M W w' := by
  have KU := Lib.hid (use_last h hu)
  have hd := h.d0
  clear h
  go_enter Try.func13, Try.ntmps13
  go_wp2_with fail
  refine KU.out.mono ?_
  rintro x w1 ⟨rfl, hd1, hf1⟩
  have HD := Lib.hid hd1
  have HF := Lib.hid hf1
  clear hd1 hf1 hd KU
  go_wp2
  go_ret
  exact ⟨rfl, HD.out, HF.out⟩
end
end Go.Proofs.Ytobgopiadfinbaa
