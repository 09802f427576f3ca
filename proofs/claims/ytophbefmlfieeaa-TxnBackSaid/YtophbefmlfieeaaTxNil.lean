/-
  CALLS ON NO TABLE of transactions.
-/
import Derived.Test.YtophbefmlfieeaaTxBackT
namespace Go.Proofs.Ytophbefmlfieeaa
open Go.RowKit
set_option maxRecDepth 100000 in
theorem toldest_nil (W : World) : Calls Try.prog 21 #[.pointer none] W fun x w' => x = .returned (.tuple #[.int .i64 0, .bool false]) ∧ W = w' := by
  have KM := Lib.hid (made_nil W)
  go_enter Try.func21, Try.ntmps21
  go_wp2_with fail
  refine KM.out.mono ?_
  rintro x w1 ⟨rfl, rfl⟩
  go_wp2
  refine bodyPost_ret (v := .tuple #[.int .i64 0, .bool false]) ?_ rfl ⟨rfl, rfl⟩
  simp [results, Try.results21, go_sem]
set_option maxRecDepth 100000 in
theorem tall_nil (f : Value) (W : World) : Calls Try.prog 38 #[.pointer none, f] W fun x w' => x = .returned (.slice none 0 0) ∧ W = w' := by
  have KM := Lib.hid (made_nil W)
  go_enter Try.func38, Try.ntmps38
  go_wp2_with fail
  refine KM.out.mono ?_
  rintro x w1 ⟨rfl, rfl⟩
  go_wp2
  go_ret
  exact ⟨rfl, rfl⟩
set_option maxRecDepth 100000 in
theorem tids_nil (W : World) : Calls Try.prog 37 #[.slice none 0 0] W fun x w' => x = .returned (.slice none 0 0) ∧ Below W.heap.size W w' := by
  go_enter Try.func37, Try.ntmps37
  go_wp2
  go_loopw [3, 8] (fun s i wr => s = .slice none 0 0 ∧ i = .int .i64 0 ∧ wr = W) (fun _ _ _ => 0)
  case atStart => exact ⟨rfl, rfl, rfl⟩
  case round =>
    obtain ⟨rfl, rfl, rfl⟩ := hrel
    go_wp2
    go_ret
    exact ⟨rfl, Below.refl _ _⟩
end Go.Proofs.Ytophbefmlfieeaa
