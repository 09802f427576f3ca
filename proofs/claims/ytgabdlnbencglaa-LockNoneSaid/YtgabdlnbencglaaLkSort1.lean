/-
  slices.SortFunc OF ONE.
-/
import Derived.Test.YtgabdlnbencglaaLkPass
namespace Go.Proofs.Ytgabdlnbencglaa
open Go.RowKit
set_option maxRecDepth 100000 in
theorem len64_one (W : World) : Calls Try.prog 75 #[.int .u64 1] W fun e W' => e = .returned (.int .i64 1) ∧ W = W' := by
  go_enter Try.func75, Try.ntmps75
  go_wp2
  go_ret
  exact ⟨by simp; kernel_rfl, rfl⟩
set_option maxRecDepth 100000 in
theorem len_one (W : World) : Calls Try.prog 59 #[.int .u64 1] W fun e W' => e = .returned (.int .i64 1) ∧ W = W' := by
  have KL := Lib.hid (len64_one W)
  go_enter Try.func59, Try.ntmps59
  go_wp2_with fail
  refine KL.out.mono ?_
  rintro e w1 ⟨rfl, rfl⟩
  go_wp2
  go_ret
  exact ⟨rfl, rfl⟩
set_option maxRecDepth 100000 in
theorem ins_one (a : Option Addr) (c : Nat) (f : Value) (W : World) : Calls Try.prog 66 #[.slice a 1 c, .int .i64 0, .int .i64 1, f] W fun e W' => e = .returned (.tuple #[]) ∧ W = W' := by
  go_enter Try.func66, Try.ntmps66
  go_wp2
  go_loopw [8] (fun i wr => i = .int .i64 1 ∧ W = wr) (fun _ _ => 0)
  case atStart => exact ⟨rfl, rfl⟩
  case round =>
    obtain ⟨rfl, rfl⟩ := hrel
    go_wp2
    refine bodyPost_end (v := .tuple #[]) (results_none rfl _ _ _) ?_ ?_
    · rfl
    · exact ⟨rfl, rfl⟩
set_option maxRecDepth 100000 in
theorem pdq_one (a : Option Addr) (c : Nat) (z : Int) (f : Value) (W : World) : Calls Try.prog 58 #[.slice a 1 c, .int .i64 0, .int .i64 1, .int .i64 z, f] W fun e W' => e = .returned (.tuple #[]) ∧ W = W' := by
  have KI := Lib.hid (ins_one a c f W)
  go_enter Try.func58, Try.ntmps58
  go_wp2
  go_loopw [1, 2] (fun i j wr => i = .int .i64 0 ∧ j = .int .i64 1 ∧ W = wr) (fun _ _ _ => 0)
  case atStart => exact ⟨rfl, rfl, rfl⟩
  case round =>
    obtain ⟨rfl, rfl, rfl⟩ := hrel
    go_wp2_with fail
    refine KI.out.mono ?_
    rintro e w1 ⟨rfl, rfl⟩
    go_wp2
    refine bodyPost_ret (v := .tuple #[]) (results_none rfl _ _ _) ?_ ?_
    · rfl
    · exact ⟨rfl, rfl⟩
set_option maxRecDepth 100000 in
theorem sortf_one (a : Option Addr) (c : Nat) (f : Value) (W : World) : Calls Try.prog 38 #[.slice a 1 c, f] W fun e W' => e = .returned (.tuple #[]) ∧ W = W' := by
  have KL := Lib.hid (len_one W)
  have KP := Lib.hid (pdq_one a c 1 f W)
  go_enter Try.func38, Try.ntmps38
  go_wp2_with fail
  refine KL.out.mono ?_
  rintro e w1 ⟨rfl, rfl⟩
  go_wp2_with fail
  refine KP.out.mono ?_
  rintro e w1 ⟨rfl, rfl⟩
  go_wp2
  refine bodyPost_end (v := .tuple #[]) (results_none rfl _ _ _) ?_ ?_
  · rfl
  · exact ⟨rfl, rfl⟩
end Go.Proofs.Ytgabdlnbencglaa
