/-
  THE WALK OF quadrigalaw05.DevicePlays: it returns true, and writes nothing that was there.
-/
import Derived.Test.YtobgopiadfinbaaDpPlay
import Derived.Test.YtobgopiadfinbaaDpOut
namespace Go.Proofs.Ytobgopiadfinbaa
open Go.RowKit
theorem devicePlays_walk (a b : Int) (la : Option Addr) (A : List Da) (cap : Nat) (w : World) (hn : A.length ≤ maxLen) (ha : DasAt w la A) :
    Calls Try.prog 3 #[.int .i64 a, .int .i64 b, .slice la A.length cap] w fun e w' => e = .returned (.bool true) ∧ Below w.heap.size w w' := by
  cases hg : greatB A with
  | true => exact play_awake a b la A cap w hn ha (.inl hg)
  | false =>
    by_cases h1 : 40 < a ∧ a ≤ 4096
    · exact play_awake a b la A cap w hn ha (.inr (.inl h1))
    by_cases h2 : 40 < b ∧ b ≤ 4096
    · exact play_awake a b la A cap w hn ha (.inr (.inr h2))
    by_cases ho : (a < 1 ∨ 4096 < a) ∨ (b < 1 ∨ 4096 < b)
    · exact play_out a b la A cap w hn ha hg (by omega) (by omega) ho
    · obtain ⟨n1, rfl⟩ := Int.eq_ofNat_of_zero_le (show 0 ≤ a by omega)
      obtain ⟨n2, rfl⟩ := Int.eq_ofNat_of_zero_le (show 0 ≤ b by omega)
      exact play_in n1 n2 la A cap w hn ha hg ⟨by omega, by omega⟩ ⟨by omega, by omega⟩
end Go.Proofs.Ytobgopiadfinbaa
