/-
  Get of no table of transactions.
-/
import Derived.Test.YtophbefmlfieeaaTxNil
namespace Go.Proofs.Ytophbefmlfieeaa
open Go.RowKit
set_option maxRecDepth 100000 in
set_option maxHeartbeats 4000000 in
theorem tget_nil (i : Int) (W : World) : Calls Try.prog 20 #[.pointer none, .int .i64 i] W fun x w' => x = .returned (.tuple #[.agg #[.int .i64 0, .int .i64 0, .int .i64 0, .int .i64 0, .int .i64 0, .slice none 0 0, .slice none 0 0], .bool false]) ∧ Below W.heap.size W w' := by
  have KM := Lib.hid (fun X => made_nil X)
  have hb0 := (Below.refl W.heap.size W).alloc (Nat.le_refl _) (.cells #[.int .i64 0, .int .i64 0, .int .i64 0, .int .i64 0, .int .i64 0, .slice none 0 0, .slice none 0 0] 56)
  have x0 : (W.alloc (.cells #[.int .i64 0, .int .i64 0, .int .i64 0, .int .i64 0, .int .i64 0, .slice none 0 0, .slice none 0 0] 56)).cell? ⟨W.heap.size, 0, none⟩ = some (.int .i64 0) := new_cell rfl rfl
  have x1 : (W.alloc (.cells #[.int .i64 0, .int .i64 0, .int .i64 0, .int .i64 0, .int .i64 0, .slice none 0 0, .slice none 0 0] 56)).cell? ⟨W.heap.size, 1, none⟩ = some (.int .i64 0) := new_cell rfl rfl
  have x2 : (W.alloc (.cells #[.int .i64 0, .int .i64 0, .int .i64 0, .int .i64 0, .int .i64 0, .slice none 0 0, .slice none 0 0] 56)).cell? ⟨W.heap.size, 2, none⟩ = some (.int .i64 0) := new_cell rfl rfl
  have x3 : (W.alloc (.cells #[.int .i64 0, .int .i64 0, .int .i64 0, .int .i64 0, .int .i64 0, .slice none 0 0, .slice none 0 0] 56)).cell? ⟨W.heap.size, 3, none⟩ = some (.int .i64 0) := new_cell rfl rfl
  have x4 : (W.alloc (.cells #[.int .i64 0, .int .i64 0, .int .i64 0, .int .i64 0, .int .i64 0, .slice none 0 0, .slice none 0 0] 56)).cell? ⟨W.heap.size, 4, none⟩ = some (.int .i64 0) := new_cell rfl rfl
  have x5 : (W.alloc (.cells #[.int .i64 0, .int .i64 0, .int .i64 0, .int .i64 0, .int .i64 0, .slice none 0 0, .slice none 0 0] 56)).cell? ⟨W.heap.size, 5, none⟩ = some (.slice none 0 0) := new_cell rfl rfl
  have x6 : (W.alloc (.cells #[.int .i64 0, .int .i64 0, .int .i64 0, .int .i64 0, .int .i64 0, .slice none 0 0, .slice none 0 0] 56)).cell? ⟨W.heap.size, 6, none⟩ = some (.slice none 0 0) := new_cell rfl rfl
  have HB := Lib.hid hb0
  clear hb0
  go_enter Try.func20, Try.ntmps20
  go_wp2_with fail
  refine (KM.out _).mono ?_
  rintro x w1 ⟨rfl, rfl⟩
  go_wp2
  refine bodyPost_ret (v := .tuple #[.agg #[.int .i64 0, .int .i64 0, .int .i64 0, .int .i64 0, .int .i64 0, .slice none 0 0, .slice none 0 0], .bool false]) ?_ rfl ⟨rfl, HB.out⟩
  simp [results, Try.results20, go_sem, x0, x1, x2, x3, x4, x5, x6]
end Go.Proofs.Ytophbefmlfieeaa
