/-
  THE CONTRACTS OF quadrigaref04.Key, Value, page.
-/
import Derived.Test.YtlggbbaigcnpjaaDoorRcAllRc
import Derived.ChangeKeysEq
namespace Go.Proofs.YtlggbbaigcnpjaaDoor
open Go.RowKit

theorem refKey_any (s : ByteArray) (w : World) :
    Calls Tryd.prog 26 #[.string s] w fun e w' => e = .returned (.bool (kyOk s)) ∧ w = w' := by
  by_cases h : (1 : Int) ≤ (s.size : Int)
  · have HR : Hid (kyOk s = decide ((s.size : Int) ≤ 8)) := Lib.hid (by unfold kyOk; rw [decide_eq_true h, Bool.true_and])
    go_enter Tryd.func26, Tryd.ntmps26
    go_wp2
    go_ret
    exact ⟨by rw [HR.out]; rfl, rfl⟩
  · have HR : Hid (kyOk s = false) := Lib.hid (by unfold kyOk; rw [decide_eq_false h, Bool.false_and])
    have h : (s.size : Int) < 1 := by omega
    go_enter Tryd.func26, Tryd.ntmps26
    go_wp2
    go_ret
    exact ⟨by rw [HR.out]; rfl, rfl⟩

theorem page_any (k : Int) (w : World) :
    Calls Tryd.prog 25 #[.int .i64 k] w fun e w' => e = .returned (.bool (k == 2 || k == 3)) ∧ w = w' := by
  by_cases h : k = 2
  · subst h
    go_enter Tryd.func25, Tryd.ntmps25
    go_wp2
    go_ret
    exact ⟨rfl, rfl⟩
  · have h' : (k == 2) = false := by rw [beq_eq_false_iff_ne]; exact h
    go_enter Tryd.func25, Tryd.ntmps25
    go_wp2
    go_ret
    exact ⟨by simp [h'], rfl⟩

theorem size_nil {s : ByteArray} (h : s.toList = []) : s.size = 0 := by
  have h2 : s.data.toList = [] := by rw [← ByteArray.toList_eq]; exact h
  have h3 : s.data.toList.length = s.size := Array.length_toList
  rw [h2] at h3
  exact h3.symm
theorem refValue_any (h : Bool) (s : ByteArray) (w : World) :
    Calls Tryd.prog 27 #[.agg #[.bool h, .string s]] w fun e w' => e = .returned (.bool (vlOk h s)) ∧ Below w.heap.size w w' := by
  by_cases hs : (s.size : Int) ≤ 16
  · cases h
    · have HR : Hid (vlOk false s = s.toList.isEmpty) := Lib.hid (by simp only [vlOk, Bool.false_and, Bool.not_false, Bool.true_and, Bool.false_or]; cases s.toList <;> rfl)
      go_enter Tryd.func27, Tryd.ntmps27
      go_wp2
      go_ret
      exact ⟨by rw [HR.out]; rfl, (Below.refl _ _).alloc (Nat.le_refl _) _⟩
    · have HR : Hid (vlOk true s = true) := Lib.hid (by simp [vlOk]; omega)
      go_enter Tryd.func27, Tryd.ntmps27
      go_wp2
      go_ret
      exact ⟨by rw [HR.out]; rfl, (Below.refl _ _).alloc (Nat.le_refl _) _⟩
  · have HR : Hid (vlOk h s = false) := Lib.hid (by
      cases h
      · have hl : ¬ s.toList = [] := fun e => by have := size_nil e; omega
        simp [vlOk, hl]
      · simp [vlOk]; omega)
    have hs : (16 : Int) < (s.size : Int) := by omega
    go_enter Tryd.func27, Tryd.ntmps27
    go_wp2
    go_ret
    exact ⟨by rw [HR.out]; rfl, (Below.refl _ _).alloc (Nat.le_refl _) _⟩
end Go.Proofs.YtlggbbaigcnpjaaDoor
