/-
  THE CONTRACT OF quadrigaref04.Print, of a right record of kind 2.
-/
import Derived.Test.YtlggbbaigcnpjaaDoorRpRow
namespace Go.Proofs.YtlggbbaigcnpjaaDoor
open Go.RowKit
set_option linter.unusedVariables false

set_option maxRecDepth 100000 in
set_option maxHeartbeats 4000000 in
theorem refPrint_2 (g t p pg u : Int) (key sb sa B T1 T2 T3 T4 T5 T6 T7 C1 C2 C3 C4 C5 C6 C7 C8 C9 C10 C11 C12 C13 C14 : ByteArray) (hb ha : Bool) (w : World) (hB : (⟨#[117, 112, 100, 97, 116, 101]⟩ : ByteArray) = B)
    (I1 : Hid (∀ W, Calls Tryd.prog 34 #[.int .i64 t] W fun e w' => e = .returned (.string T1) ∧ Below W.heap.size W w'))
    (I2 : Hid (∀ W, Calls Tryd.prog 34 #[.int .i64 g] W fun e w' => e = .returned (.string T2) ∧ Below W.heap.size W w'))
    (I3 : Hid (∀ W, Calls Tryd.prog 34 #[.int .i64 p] W fun e w' => e = .returned (.string T3) ∧ Below W.heap.size W w'))
    (I4 : Hid (∀ W, Calls Tryd.prog 34 #[.int .i64 pg] W fun e w' => e = .returned (.string T4) ∧ Below W.heap.size W w'))
    (I5 : Hid (∀ W, Calls Tryd.prog 35 #[.string key] W fun e w' => e = .returned (.string T5) ∧ Below W.heap.size W w'))
    (I6 : Hid (∀ W, Calls Tryd.prog 36 #[.agg #[.bool hb, .string sb]] W fun e w' => e = .returned (.string T6) ∧ Below W.heap.size W w'))
    (I7 : Hid (∀ W, Calls Tryd.prog 36 #[.agg #[.bool ha, .string sa]] W fun e w' => e = .returned (.string T7) ∧ Below W.heap.size W w'))
    (e1 : B ++ (⟨#[32]⟩ : ByteArray) = C1) (e2 : C1 ++ T1 = C2) (e3 : C2 ++ (⟨#[32]⟩ : ByteArray) = C3) (e4 : C3 ++ T2 = C4)
    (e5 : C4 ++ (⟨#[32]⟩ : ByteArray) = C5) (e6 : C5 ++ T3 = C6) (e7 : C6 ++ (⟨#[32]⟩ : ByteArray) = C7) (e8 : C7 ++ T4 = C8)
    (e9 : C8 ++ (⟨#[32]⟩ : ByteArray) = C9) (e10 : C9 ++ T5 = C10) (e11 : C10 ++ (⟨#[32]⟩ : ByteArray) = C11) (e12 : C11 ++ T6 = C12)
    (e13 : C12 ++ (⟨#[32]⟩ : ByteArray) = C13) (e14 : C13 ++ T7 = C14)
    (z1 : ¬ 9223372036854775807 < B.size + 1) (z2 : ¬ 9223372036854775807 < C1.size + T1.size) (z3 : ¬ 9223372036854775807 < C2.size + 1) (z4 : ¬ 9223372036854775807 < C3.size + T2.size)
    (z5 : ¬ 9223372036854775807 < C4.size + 1) (z6 : ¬ 9223372036854775807 < C5.size + T3.size) (z7 : ¬ 9223372036854775807 < C6.size + 1) (z8 : ¬ 9223372036854775807 < C7.size + T4.size)
    (z9 : ¬ 9223372036854775807 < C8.size + 1) (z10 : ¬ 9223372036854775807 < C9.size + T5.size) (z11 : ¬ 9223372036854775807 < C10.size + 1) (z12 : ¬ 9223372036854775807 < C11.size + T6.size)
    (z13 : ¬ 9223372036854775807 < C12.size + 1) (z14 : ¬ 9223372036854775807 < C13.size + T7.size)
    : Calls Tryd.prog 13 #[.agg #[.int .i64 2, .int .i64 g, .int .i64 t, .int .i64 p, .int .i64 pg, .string key, .bool hb, .string sb, .bool ha, .string sa, .int .i64 u]] w fun e w' => e = .returned (.string C14) ∧ Below w.heap.size w w' := by
  have KP := Lib.hid (fun W => page_any 2 W)
  go_enter Tryd.func13, Tryd.ntmps13
  go_wp2_with fail
  obtain ⟨W0, hW0⟩ : ∃ W0, W0 = (w.alloc (.cells #[.int .i64 2, .int .i64 g, .int .i64 t, .int .i64 p, .int .i64 pg, .string key, .bool hb, .string sb, .bool ha, .string sa, .int .i64 u] 25)).alloc (.cells #[.string ⟨#[]⟩, .string ⟨#[98, 101, 103, 105, 110]⟩, .string B, .string ⟨#[99, 108, 114]⟩, .string ⟨#[115, 97, 118, 101]⟩, .string ⟨#[99, 111, 109, 109, 105, 116]⟩, .string ⟨#[101, 110, 100]⟩] 9) := ⟨_, rfl⟩
  have c0 : W0.cell? ⟨w.heap.size, 0, none⟩ = some (.int .i64 2) := by rw [hW0]; exact keep_alloc (new_cell rfl rfl)
  have c1 : W0.cell? ⟨w.heap.size, 1, none⟩ = some (.int .i64 g) := by rw [hW0]; exact keep_alloc (new_cell rfl rfl)
  have c2 : W0.cell? ⟨w.heap.size, 2, none⟩ = some (.int .i64 t) := by rw [hW0]; exact keep_alloc (new_cell rfl rfl)
  have c3 : W0.cell? ⟨w.heap.size, 3, none⟩ = some (.int .i64 p) := by rw [hW0]; exact keep_alloc (new_cell rfl rfl)
  have c4 : W0.cell? ⟨w.heap.size, 4, none⟩ = some (.int .i64 pg) := by rw [hW0]; exact keep_alloc (new_cell rfl rfl)
  have c5 : W0.cell? ⟨w.heap.size, 5, none⟩ = some (.string key) := by rw [hW0]; exact keep_alloc (new_cell rfl rfl)
  have c6 : W0.cell? ⟨w.heap.size, 6, none⟩ = some (.bool hb) := by rw [hW0]; exact keep_alloc (new_cell rfl rfl)
  have c7 : W0.cell? ⟨w.heap.size, 7, none⟩ = some (.string sb) := by rw [hW0]; exact keep_alloc (new_cell rfl rfl)
  have c8 : W0.cell? ⟨w.heap.size, 8, none⟩ = some (.bool ha) := by rw [hW0]; exact keep_alloc (new_cell rfl rfl)
  have c9 : W0.cell? ⟨w.heap.size, 9, none⟩ = some (.string sa) := by rw [hW0]; exact keep_alloc (new_cell rfl rfl)
  have cB : W0.cell? ⟨w.heap.size + 1, 2, none⟩ = some (.string B) := by rw [hW0]; exact new_cell (by rw [World.size_alloc]) rfl
  have HB := Lib.hid (show Below w.heap.size w W0 by rw [hW0]; exact bw_alloc (bw_alloc (Below.refl _ _)))
  rw [← hW0]
  clear hW0 hB
  go_region_held3 (fun w' => w'.cell? ⟨w.heap.size, 0, none⟩ = some (.int .i64 2) ∧ w'.cell? ⟨w.heap.size, 1, none⟩ = some (.int .i64 g) ∧ w'.cell? ⟨w.heap.size, 2, none⟩ = some (.int .i64 t) ∧ w'.cell? ⟨w.heap.size, 3, none⟩ = some (.int .i64 p) ∧ w'.cell? ⟨w.heap.size, 4, none⟩ = some (.int .i64 pg) ∧ w'.cell? ⟨w.heap.size, 5, none⟩ = some (.string key) ∧ w'.cell? ⟨w.heap.size, 6, none⟩ = some (.bool hb) ∧ w'.cell? ⟨w.heap.size, 7, none⟩ = some (.string sb) ∧ w'.cell? ⟨w.heap.size, 8, none⟩ = some (.bool ha) ∧ w'.cell? ⟨w.heap.size, 9, none⟩ = some (.string sa) ∧ w'.cell? ⟨w.heap.size + 1, 2, none⟩ = some (.string B))
    ((refine ⟨?_, ?_, ?_, ?_, ?_, ?_, ?_, ?_, ?_, ?_, ?_⟩ <;> (repeat (first | with_reducible assumption | (with_reducible refine new_cell ?_ ?_ <;> first | rfl | (simp; done)) | with_reducible refine keep_alloc ?_ | with_reducible refine keep_drew ?_ | with_reducible refine keep_cell (by assumption) ?_))))
    (first
      | (go_at_call_of 34 (Value.int .i64 t); refine (I1.out _).mono ?_; rintro x wz ⟨rfl, hbz⟩)
      | (go_at_call_of 34 (Value.int .i64 g); refine (I2.out _).mono ?_; rintro x wz ⟨rfl, hbz⟩)
      | (go_at_call_of 34 (Value.int .i64 p); refine (I3.out _).mono ?_; rintro x wz ⟨rfl, hbz⟩))
  go_wp2_with fail
  refine (KP.out _).mono ?_
  rintro x W ⟨rfl, hW⟩
  have d0 : W.cell? ⟨w.heap.size, 0, none⟩ = some (.int .i64 2) := by rw [← hW]; (repeat (first | with_reducible assumption | (with_reducible refine new_cell ?_ ?_ <;> first | rfl | (simp; done)) | with_reducible refine keep_alloc ?_ | with_reducible refine keep_drew ?_ | with_reducible refine keep_cell (by assumption) ?_))
  have d4 : W.cell? ⟨w.heap.size, 4, none⟩ = some (.int .i64 pg) := by rw [← hW]; (repeat (first | with_reducible assumption | (with_reducible refine new_cell ?_ ?_ <;> first | rfl | (simp; done)) | with_reducible refine keep_alloc ?_ | with_reducible refine keep_drew ?_ | with_reducible refine keep_cell (by assumption) ?_))
  have d5 : W.cell? ⟨w.heap.size, 5, none⟩ = some (.string key) := by rw [← hW]; (repeat (first | with_reducible assumption | (with_reducible refine new_cell ?_ ?_ <;> first | rfl | (simp; done)) | with_reducible refine keep_alloc ?_ | with_reducible refine keep_drew ?_ | with_reducible refine keep_cell (by assumption) ?_))
  have d6 : W.cell? ⟨w.heap.size, 6, none⟩ = some (.bool hb) := by rw [← hW]; (repeat (first | with_reducible assumption | (with_reducible refine new_cell ?_ ?_ <;> first | rfl | (simp; done)) | with_reducible refine keep_alloc ?_ | with_reducible refine keep_drew ?_ | with_reducible refine keep_cell (by assumption) ?_))
  have d7 : W.cell? ⟨w.heap.size, 7, none⟩ = some (.string sb) := by rw [← hW]; (repeat (first | with_reducible assumption | (with_reducible refine new_cell ?_ ?_ <;> first | rfl | (simp; done)) | with_reducible refine keep_alloc ?_ | with_reducible refine keep_drew ?_ | with_reducible refine keep_cell (by assumption) ?_))
  have d8 : W.cell? ⟨w.heap.size, 8, none⟩ = some (.bool ha) := by rw [← hW]; (repeat (first | with_reducible assumption | (with_reducible refine new_cell ?_ ?_ <;> first | rfl | (simp; done)) | with_reducible refine keep_alloc ?_ | with_reducible refine keep_drew ?_ | with_reducible refine keep_cell (by assumption) ?_))
  have d9 : W.cell? ⟨w.heap.size, 9, none⟩ = some (.string sa) := by rw [← hW]; (repeat (first | with_reducible assumption | (with_reducible refine new_cell ?_ ?_ <;> first | rfl | (simp; done)) | with_reducible refine keep_alloc ?_ | with_reducible refine keep_drew ?_ | with_reducible refine keep_cell (by assumption) ?_))
  have HB2 := Lib.hid (show Below w.heap.size w W by rw [← hW]; have hb1 := HB.out; (repeat (first | with_reducible assumption | with_reducible exact Below.refl _ _ | with_reducible refine bw_alloc ?_ | with_reducible refine bw_drew ?_ | with_reducible refine bw_call (by assumption) ?_)))
  clear hW HB KP cB c0 c1 c2 c3 c4 c5 c6 c7 c8 c9
  go_wp2_with fail
  go_region_held3 (fun w' => w'.cell? ⟨w.heap.size, 0, none⟩ = some (.int .i64 2) ∧ w'.cell? ⟨w.heap.size, 4, none⟩ = some (.int .i64 pg) ∧ w'.cell? ⟨w.heap.size, 5, none⟩ = some (.string key) ∧ w'.cell? ⟨w.heap.size, 6, none⟩ = some (.bool hb) ∧ w'.cell? ⟨w.heap.size, 7, none⟩ = some (.string sb) ∧ w'.cell? ⟨w.heap.size, 8, none⟩ = some (.bool ha) ∧ w'.cell? ⟨w.heap.size, 9, none⟩ = some (.string sa))
    ((refine ⟨?_, ?_, ?_, ?_, ?_, ?_, ?_⟩ <;> (repeat (first | with_reducible assumption | (with_reducible refine new_cell ?_ ?_ <;> first | rfl | (simp; done)) | with_reducible refine keep_alloc ?_ | with_reducible refine keep_drew ?_ | with_reducible refine keep_cell (by assumption) ?_))))
    (first
      | (go_at_call_of 34 (Value.int .i64 pg); refine (I4.out _).mono ?_; rintro x wz ⟨rfl, hbz⟩)
      | (go_at_call_of 35 (Value.string key); refine (I5.out _).mono ?_; rintro x wz ⟨rfl, hbz⟩)
      | (go_at_call_of 36 (Value.agg #[.bool hb, .string sb]); refine (I6.out _).mono ?_; rintro x wz ⟨rfl, hbz⟩)
      | (go_at_call_of 36 (Value.agg #[.bool ha, .string sa]); refine (I7.out _).mono ?_; rintro x wz ⟨rfl, hbz⟩))
  have hb1 := HB2.out
  go_wp2
  go_ret
  exact ⟨rfl, by (repeat (first | with_reducible assumption | with_reducible exact Below.refl _ _ | with_reducible refine bw_alloc ?_ | with_reducible refine bw_drew ?_ | with_reducible refine bw_call (by assumption) ?_))⟩
end Go.Proofs.YtlggbbaigcnpjaaDoor
