/-
  A use of a power that is on, armed or not, and stays on.
-/
import Derived.Test.YtobgopiadfinbaaDvCrash
namespace Go.Proofs.Ytobgopiadfinbaa
open Go.RowKit
/-- What is left behind a use. -/
def nl (armed : Bool) (left : Int) : Int := if armed then left - 1 else left
/-- The world behind a use. -/
def useW (P : Nat) (uses : Int) (armed : Bool) (left : Int) (W : World) : World :=
  if armed then (((W.setCell ⟨P, 1, none⟩ (.int .i64 (uses + 1))).setCell ⟨P, 0, none⟩ (.bool false)).setCell ⟨P, 3, none⟩ (.int .i64 (left - 1))) else W.setCell ⟨P, 1, none⟩ (.int .i64 (uses + 1))
section
variable {W : World} {D P L M n k : Nat} {uses left : Int} {armed : Bool} {las : List (List UInt8)} {f : Int → Option (List UInt8)}
theorem useW_dev (h : DevAt W D P L M n k false uses armed left las f) : DevAt (useW P uses armed left W) D P L M n k false (uses + 1) armed (nl armed left) las f := by
  cases armed with
  | true => exact ((h.pow.2.1 (uses + 1)).pow.1 false).pow.2.2.2 (left - 1)
  | false => exact h.pow.2.1 (uses + 1)
theorem useW_fr (W : World) (uses : Int) (armed : Bool) (left : Int) : Fr3 P L M W (useW P uses armed left W) := by
  cases armed with
  | true => exact ((Fr3.setP _ _ _).trans (Fr3.setP _ _ _)).trans (Fr3.setP _ _ _)
  | false => exact Fr3.setP _ _ _
theorem use_yes (h : DevAt W D P L M n k false uses armed left las f) (hu : 0 ≤ uses ∧ uses ≤ 1000000000) (hl : armed = true → 0 < left ∧ left ≤ 9223372036854775807) :
    Calls Try.prog 30 #[.pointer (some ⟨P, 0, none⟩)] W fun e w' => e = .returned (.bool true) ∧ w' = useW P uses armed left W := by
  cases armed with
  | false => exact use_on h hu
  | true =>
    obtain ⟨l0, l1⟩ := hl rfl
    have KO := Lib.hid (powOn_any P false W h.p0)
    have D1 := h.pow.2.1 (uses + 1)
    have D2 := D1.pow.1 false
    have D3 := D2.pow.2.2.2 (left - 1)
    have KX := Lib.hid (powOn_any P false _ D3.p0)
    have a1 := h.p1
    have a2 := D1.p2
    have a3 := D1.p3
    have a0 := D1.p0
    have b3 := D2.p3
    have hf := h.pf
    have hl0 : ¬ left = 0 := by omega
    have hl3 : (left == 0) = false := by rw [beq_eq_false_iff_ne]; exact hl0
    obtain ⟨u0, u1⟩ := hu
    clear h D1 D2 D3 hl
    go_enter Try.func30, Try.ntmps30
    go_wp2_with fail
    refine KO.out.mono ?_
    rintro x w1 ⟨rfl, rfl⟩
    go_wp2_with fail
    refine KX.out.mono ?_
    rintro x w1 ⟨rfl, rfl⟩
    clear a1 a2 a3 a0 b3
    go_wp2
    go_ret
    exact ⟨rfl, rfl⟩
end
end Go.Proofs.Ytobgopiadfinbaa
