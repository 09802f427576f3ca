/-
  Ids and Settled of no table of transactions.
-/
import Derived.Test.YtophbefmlfieeaaTxGetNil
namespace Go.Proofs.Ytophbefmlfieeaa
open Go.RowKit
set_option maxRecDepth 100000 in
set_option maxHeartbeats 4000000 in
theorem insort_nil (f : Value) (W : World) : Calls Try.prog 71 #[.slice none 0 0, .int .i64 0, .int .i64 0, f] W fun x w' => x = .returned (.tuple #[]) ∧ Below W.heap.size W w' := by
  go_enter Try.func71, Try.ntmps71
  go_wp2
  go_loopw [8] (fun i wr => i = .int .i64 1 ∧ wr = W) (fun _ _ => 0)
  case atStart => exact ⟨rfl, rfl⟩
  case round =>
    obtain ⟨rfl, rfl⟩ := hrel
    go_wp2
    go_end0
    first | exact ⟨rfl, Below.refl _ _⟩ | exact Below.refl _ _
set_option maxRecDepth 100000 in
set_option maxHeartbeats 4000000 in
theorem stable_nil (f : Value) (W : World) : Calls Try.prog 56 #[.slice none 0 0, .int .i64 0, f] W fun x w' => x = .returned (.tuple #[]) ∧ Below W.heap.size W w' := by
  have KI := Lib.hid (fun X => insort_nil f X)
  go_enter Try.func56, Try.ntmps56
  go_wp2
  go_loopw [7, 8] (fun a b wr => a = .int .i64 0 ∧ b = .int .i64 20 ∧ wr = W) (fun _ _ _ => 0)
  case atStart => exact ⟨rfl, rfl, rfl⟩
  case round =>
    obtain ⟨rfl, rfl, rfl⟩ := hrel
    go_wp2_with fail
    refine (KI.out _).mono ?_
    rintro x w1 ⟨rfl, hb⟩
    go_wp2
    go_loopw [6] (fun s wr => s = .int .i64 20 ∧ wr = w1) (fun _ _ => 0)
    case atStart => exact ⟨rfl, rfl⟩
    case round =>
      obtain ⟨rfl, rfl⟩ := hrel
      go_wp2
      go_end0
      first | exact ⟨rfl, hb⟩ | exact hb
set_option maxRecDepth 100000 in
theorem sstable_nil (f : Value) (W : World) : Calls Try.prog 41 #[.slice none 0 0, f] W fun x w' => x = .returned (.tuple #[]) ∧ Below W.heap.size W w' := by
  have KI := Lib.hid (fun X => stable_nil f X)
  go_enter Try.func41, Try.ntmps41
  go_wp2_with fail
  refine (KI.out _).mono ?_
  rintro x w1 ⟨rfl, hb⟩
  go_wp2
  go_end0
  first | exact ⟨rfl, hb⟩ | exact hb
set_option maxRecDepth 100000 in
theorem tsettled_nil (h : Int) (W : World) : Calls Try.prog 23 #[.pointer none, .int .i64 h] W fun x w' => x = .returned (.slice none 0 0) ∧ Below W.heap.size W w' := by
  have KA := Lib.hid (fun f X => tall_nil f X)
  have KS := Lib.hid (fun f X => sstable_nil f X)
  have KI := Lib.hid (fun X => tids_nil X)
  have hb0 := (Below.refl W.heap.size W).alloc (Nat.le_refl _) (.cells #[.int .i64 h] 3)
  go_enter Try.func23, Try.ntmps23
  go_wp2_with fail
  refine (KA.out _ _).mono ?_
  rintro x w1 ⟨rfl, rfl⟩
  go_wp2_with fail
  refine (KS.out _ _).mono ?_
  rintro x w2 ⟨rfl, hb2⟩
  go_wp2_with fail
  refine (KI.out _).mono ?_
  rintro x w3 ⟨rfl, hb3⟩
  go_wp2
  go_ret
  have hb4 := hb0.trans (hb2.mono hb0.size)
  exact ⟨rfl, hb4.trans (hb3.mono hb4.size)⟩
set_option maxRecDepth 100000 in
set_option maxHeartbeats 4000000 in
theorem tIds_nil (W : World) : Calls Try.prog 22 #[.pointer none, .slice none 0 0] W fun x w' => x = .returned (.slice none 0 0) ∧ Below W.heap.size W w' := by
  have KA := Lib.hid (fun f X => tall_nil f X)
  have KI := Lib.hid (fun X => tids_nil X)
  go_enter Try.func22, Try.ntmps22
  go_wp2
  go_loopw [10] (fun i wr => i = .int .i64 0 ∧ Below W.heap.size W wr) (fun _ _ => 0)
  case atStart => exact ⟨rfl, ((Below.refl _ W).alloc (Nat.le_refl _) _).alloc (by simp) _⟩
  case round =>
    obtain ⟨rfl, hb⟩ := hrel
    go_wp2_with fail
    refine (KA.out _ _).mono ?_
    rintro x w1 ⟨rfl, rfl⟩
    go_wp2_with fail
    refine (KI.out _).mono ?_
    rintro x w2 ⟨rfl, hb2⟩
    go_wp2
    go_ret
    exact ⟨rfl, hb.trans (hb2.mono hb.size)⟩
end Go.Proofs.Ytophbefmlfieeaa
