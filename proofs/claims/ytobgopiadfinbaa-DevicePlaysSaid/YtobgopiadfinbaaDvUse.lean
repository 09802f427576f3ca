/-
  THE CONTRACTS OF a power's On, use, again, and of a device's Sectors and has.
-/
import Derived.Test.YtobgopiadfinbaaDvDev
namespace Go.Proofs.Ytobgopiadfinbaa
open Go.RowKit

theorem powOn_any (P : Nat) (off : Bool) (W : World) (h : W.cell? ⟨P, 0, none⟩ = some (.bool off)) :
    Calls Try.prog 10 #[.pointer (some ⟨P, 0, none⟩)] W fun e w' => e = .returned (.bool (!off)) ∧ W = w' := by
  cases off <;>
  · go_enter Try.func10, Try.ntmps10
    go_wp2
    go_ret
    exact ⟨rfl, rfl⟩
theorem powOn_nil (W : World) : Calls Try.prog 10 #[.pointer none] W fun e w' => e = .returned (.bool false) ∧ W = w' := by
  go_enter Try.func10, Try.ntmps10
  go_wp2
  go_ret
  exact ⟨rfl, rfl⟩
set_option maxHeartbeats 1000000 in
/-- A use, where the power is on and not armed. -/
theorem use_on {W : World} {D P L M n k : Nat} {uses left : Int} {las : List (List UInt8)} {f : Int → Option (List UInt8)} (h : DevAt W D P L M n k false uses false left las f) (hu : 0 ≤ uses ∧ uses ≤ 1000000000) :
    Calls Try.prog 30 #[.pointer (some ⟨P, 0, none⟩)] W fun e w' => e = .returned (.bool true) ∧ w' = W.setCell ⟨P, 1, none⟩ (.int .i64 (uses + 1)) := by
  have KO := Lib.hid (powOn_any P false W h.p0)
  have h1 := h.p1
  have h2 := h.p2
  have h3 : ∀ v, (W.setCell ⟨P, 1, none⟩ v).cell? ⟨P, 2, none⟩ = some (.bool false) := fun v => by
    rw [World.cell?_setCell_other _ _ _ _ (fun e => by injection e with _ e2; cases e2)]; exact h.p2
  have hf := h.pf 1
  obtain ⟨u0, u1⟩ := hu
  go_enter Try.func30, Try.ntmps30
  go_wp2_with fail
  refine KO.out.mono ?_
  rintro x w1 ⟨rfl, rfl⟩
  go_wp2
  go_ret
  exact ⟨rfl, rfl⟩
theorem sectors_any {W : World} {D P L M n k : Nat} {off : Bool} {uses : Int} {armed : Bool} {left : Int} {las : List (List UInt8)} {f : Int → Option (List UInt8)} (h : DevAt W D P L M n k off uses armed left las f) :
    Calls Try.prog 26 #[.pointer (some ⟨D, 0, none⟩)] W fun e w' => e = .returned (.int .i64 (n : Int)) ∧ W = w' := by
  have h1 := h.d1
  go_enter Try.func26, Try.ntmps26
  go_wp2
  go_ret
  exact ⟨rfl, rfl⟩
def hasB (n : Nat) (i : Int) : Bool := decide (0 ≤ i) && decide (i < (n : Int))
theorem has_any {W : World} {D P L M n k : Nat} {off : Bool} {uses : Int} {armed : Bool} {left : Int} {las : List (List UInt8)} {f : Int → Option (List UInt8)} (h : DevAt W D P L M n k off uses armed left las f) (i : Int) :
    Calls Try.prog 32 #[.pointer (some ⟨D, 0, none⟩), .int .i64 i] W fun e w' => e = .returned (.bool (hasB n i)) ∧ W = w' := by
  have KS := Lib.hid (sectors_any h)
  have HB : Hid (hasB n i = (decide (0 ≤ i) && decide (i < (n : Int)))) := rfl
  by_cases h0 : 0 ≤ i
  · by_cases h1 : i < (n : Int)
    · have d0 := Lib.hid (decide_eq_true h0)
      have d1 := Lib.hid (decide_eq_true h1)
      go_enter Try.func32, Try.ntmps32
      go_wp2_with fail
      refine KS.out.mono ?_
      rintro x w1 ⟨rfl, rfl⟩
      go_wp2
      go_ret
      exact ⟨by rw [HB.out, d0.out, d1.out]; rfl, rfl⟩
    · have d0 := Lib.hid (decide_eq_true h0)
      have d1 := Lib.hid (decide_eq_false h1)
      have h1 : (n : Int) ≤ i := by omega
      go_enter Try.func32, Try.ntmps32
      go_wp2_with fail
      refine KS.out.mono ?_
      rintro x w1 ⟨rfl, rfl⟩
      go_wp2
      go_ret
      exact ⟨by rw [HB.out, d0.out, d1.out]; rfl, rfl⟩
  · have d0 := Lib.hid (decide_eq_false h0)
    have h0 : i < 0 := by omega
    go_enter Try.func32, Try.ntmps32
    go_wp2
    go_ret
    exact ⟨by rw [HB.out, d0.out]; rfl, rfl⟩
end Go.Proofs.Ytobgopiadfinbaa
