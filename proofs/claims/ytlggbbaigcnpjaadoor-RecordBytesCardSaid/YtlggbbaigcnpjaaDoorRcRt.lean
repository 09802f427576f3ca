/-
  WHAT quadrigaref04.Decode READS: numbers, of what is there.
-/
import Derived.Test.YtlggbbaigcnpjaaDoorRcRefCut
namespace Go.Proofs.YtlggbbaigcnpjaaDoor
open Go.RowKit

/-- What the reference takes: a number, nought where there is none. -/
def rtOf (s : ByteArray) (K : Int) : Nat := match takeOf s K with
  | some (n, _) => n
  | none => 0
def rtOk (s : ByteArray) (K : Int) : Bool := match takeOf s K with
  | some _ => true
  | none => false
theorem refTake_at (s : ByteArray) (K : Int) (w : World) (hK : -9223372036854775808 ≤ K ∧ K ≤ 9223372036854775807) (hs : s.size ≤ 140737488355328) :
    Calls Tryd.prog 23 #[.string s, .int .i64 K] w fun e w' => e = .returned (.tuple #[.int .i64 (rtOf s K : Int), .bool (rtOk s K)]) ∧ w = w' := by
  refine (refTake_any s K w hK hs).mono ?_
  rintro e w' ⟨rfl, hb⟩
  refine ⟨?_, hb⟩
  unfold refTakeVal rtOf rtOk
  cases takeOf s K <;> rfl
theorem cutOf_size (s : ByteArray) (f n : Nat) : (cutOf s f n).size ≤ s.size := by
  unfold cutOf; rw [ByteArray.size_extract]; omega
end Go.Proofs.YtlggbbaigcnpjaaDoor
