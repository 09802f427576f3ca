/-
  THE WALK OF quadrigalaw04.RecordPrints: it returns true, and writes nothing that was there, unlike records.
-/
import Derived.Test.YtlggbbaigcnpjaaDoorRpLawA
namespace Go.Proofs.YtlggbbaigcnpjaaDoor
open Go.RowKit
set_option linter.unusedVariables false

set_option maxRecDepth 100000 in
set_option maxHeartbeats 4000000 in
theorem prints_d5 (k : Int) (g : Int) (t : Int) (p : Int) (pg : Int) (key : ByteArray) (hb : Bool) (sb : ByteArray) (ha : Bool) (sa : ByteArray) (u : Int) (key2 : ByteArray) (hb2 : Bool) (sb2 : ByteArray) (ha2 : Bool) (sa2 : ByteArray) (u2 : Int) (PA PB : ByteArray) (w : World)
    (KA : Hid (∀ W, Hid (Below w.heap.size w W) → Calls Tryd.prog 6 #[] W fun e w' => e = .returned (.bool true) ∧ Below W.heap.size W w'))
    (G1 : Hid (∀ W, Calls Tryd.prog 5 #[.agg #[.int .i64 k, .int .i64 g, .int .i64 t, .int .i64 p, .int .i64 pg, .string key, .bool hb, .string sb, .bool ha, .string sa, .int .i64 u]] W fun e w' => e = .returned (.bool false) ∧ Below W.heap.size W w'))
    (G2 : Hid (∀ W, Calls Tryd.prog 5 #[.agg #[.int .i64 k, .int .i64 g, .int .i64 t, .int .i64 p, .int .i64 pg, .string key2, .bool hb2, .string sb2, .bool ha2, .string sa2, .int .i64 u2]] W fun e w' => e = .returned (.bool false) ∧ Below W.heap.size W w'))
    (P1 : Hid (∀ W, Hid (Below w.heap.size w W) → Calls Tryd.prog 12 #[.agg #[.int .i64 k, .int .i64 g, .int .i64 t, .int .i64 p, .int .i64 pg, .string key, .bool hb, .string sb, .bool ha, .string sa, .int .i64 u]] W fun e w' => e = .returned (.string PA) ∧ Below W.heap.size W w'))
    (P2 : Hid (∀ W, Hid (Below w.heap.size w W) → Calls Tryd.prog 12 #[.agg #[.int .i64 k, .int .i64 g, .int .i64 t, .int .i64 p, .int .i64 pg, .string key2, .bool hb2, .string sb2, .bool ha2, .string sa2, .int .i64 u2]] W fun e w' => e = .returned (.string PB) ∧ Below W.heap.size W w'))
    (K1 : Hid (∀ W, Calls Tryd.prog 10 #[.agg #[.int .i64 k, .int .i64 g, .int .i64 t, .int .i64 p, .int .i64 pg, .string key, .bool hb, .string sb, .bool ha, .string sa, .int .i64 u]] W fun e w' => e = .returned (.bool true) ∧ Below W.heap.size W w'))
    (KR : Hid (∀ W, Calls Tryd.prog 13 #[.agg #[.int .i64 k, .int .i64 g, .int .i64 t, .int .i64 p, .int .i64 pg, .string key, .bool hb, .string sb, .bool ha, .string sa, .int .i64 u]] W fun e w' => e = .returned (.string PA) ∧ Below W.heap.size W w'))
    (f0 : PA.toList ≠ []) (f1 : PA.toList.isEmpty = false) (f2 : PB.toList ≠ []) (f3 : PB.toList.isEmpty = false) (f4 : (PA.toList == PB.toList) = false) (f5 : (key.toList == key2.toList) = false) :
    Calls Tryd.prog 4 #[.agg #[.int .i64 k, .int .i64 g, .int .i64 t, .int .i64 p, .int .i64 pg, .string key, .bool hb, .string sb, .bool ha, .string sa, .int .i64 u], .agg #[.int .i64 k, .int .i64 g, .int .i64 t, .int .i64 p, .int .i64 pg, .string key2, .bool hb2, .string sb2, .bool ha2, .string sa2, .int .i64 u2]] w fun e w' => e = .returned (.bool true) ∧ Below w.heap.size w w' := by
  go_enter Tryd.func4, Tryd.ntmps4
  go_wp2_with fail
  refine (G1.out _).mono ?_
  rintro x w1 ⟨rfl, hb1⟩
  have a0 : w1.cell? ⟨w.heap.size, 0, none⟩ = some (.int .i64 k) := keep_cell hb1 (keep_alloc (new_cell rfl rfl))
  have b0 : w1.cell? ⟨w.heap.size + 1, 0, none⟩ = some (.int .i64 k) := keep_cell hb1 (new_cell (by rw [World.size_alloc]) rfl)
  have a1 : w1.cell? ⟨w.heap.size, 1, none⟩ = some (.int .i64 g) := keep_cell hb1 (keep_alloc (new_cell rfl rfl))
  have b1 : w1.cell? ⟨w.heap.size + 1, 1, none⟩ = some (.int .i64 g) := keep_cell hb1 (new_cell (by rw [World.size_alloc]) rfl)
  have a2 : w1.cell? ⟨w.heap.size, 2, none⟩ = some (.int .i64 t) := keep_cell hb1 (keep_alloc (new_cell rfl rfl))
  have b2 : w1.cell? ⟨w.heap.size + 1, 2, none⟩ = some (.int .i64 t) := keep_cell hb1 (new_cell (by rw [World.size_alloc]) rfl)
  have a3 : w1.cell? ⟨w.heap.size, 3, none⟩ = some (.int .i64 p) := keep_cell hb1 (keep_alloc (new_cell rfl rfl))
  have b3 : w1.cell? ⟨w.heap.size + 1, 3, none⟩ = some (.int .i64 p) := keep_cell hb1 (new_cell (by rw [World.size_alloc]) rfl)
  have a4 : w1.cell? ⟨w.heap.size, 4, none⟩ = some (.int .i64 pg) := keep_cell hb1 (keep_alloc (new_cell rfl rfl))
  have b4 : w1.cell? ⟨w.heap.size + 1, 4, none⟩ = some (.int .i64 pg) := keep_cell hb1 (new_cell (by rw [World.size_alloc]) rfl)
  have a5 : w1.cell? ⟨w.heap.size, 5, none⟩ = some (.string key) := keep_cell hb1 (keep_alloc (new_cell rfl rfl))
  have b5 : w1.cell? ⟨w.heap.size + 1, 5, none⟩ = some (.string key2) := keep_cell hb1 (new_cell (by rw [World.size_alloc]) rfl)
  have a6 : w1.cell? ⟨w.heap.size, 6, none⟩ = some (.bool hb) := keep_cell hb1 (keep_alloc (new_cell rfl rfl))
  have b6 : w1.cell? ⟨w.heap.size + 1, 6, none⟩ = some (.bool hb2) := keep_cell hb1 (new_cell (by rw [World.size_alloc]) rfl)
  have a7 : w1.cell? ⟨w.heap.size, 7, none⟩ = some (.string sb) := keep_cell hb1 (keep_alloc (new_cell rfl rfl))
  have b7 : w1.cell? ⟨w.heap.size + 1, 7, none⟩ = some (.string sb2) := keep_cell hb1 (new_cell (by rw [World.size_alloc]) rfl)
  have a8 : w1.cell? ⟨w.heap.size, 8, none⟩ = some (.bool ha) := keep_cell hb1 (keep_alloc (new_cell rfl rfl))
  have b8 : w1.cell? ⟨w.heap.size + 1, 8, none⟩ = some (.bool ha2) := keep_cell hb1 (new_cell (by rw [World.size_alloc]) rfl)
  have a9 : w1.cell? ⟨w.heap.size, 9, none⟩ = some (.string sa) := keep_cell hb1 (keep_alloc (new_cell rfl rfl))
  have b9 : w1.cell? ⟨w.heap.size + 1, 9, none⟩ = some (.string sa2) := keep_cell hb1 (new_cell (by rw [World.size_alloc]) rfl)
  have a10 : w1.cell? ⟨w.heap.size, 10, none⟩ = some (.int .i64 u) := keep_cell hb1 (keep_alloc (new_cell rfl rfl))
  have b10 : w1.cell? ⟨w.heap.size + 1, 10, none⟩ = some (.int .i64 u2) := keep_cell hb1 (new_cell (by rw [World.size_alloc]) rfl)
  have HB : Hid (Below w.heap.size w w1) := bwh_call hb1 (bwh_alloc (bwh_alloc (Below.refl _ _)))
  clear hb1 G1
  go_wp2_with fail
  refine (G2.out _).mono ?_
  rintro x w2 ⟨rfl, hb2⟩
  replace a0 := keep_cell hb2 a0
  replace b0 := keep_cell hb2 b0
  replace a1 := keep_cell hb2 a1
  replace b1 := keep_cell hb2 b1
  replace a2 := keep_cell hb2 a2
  replace b2 := keep_cell hb2 b2
  replace a3 := keep_cell hb2 a3
  replace b3 := keep_cell hb2 b3
  replace a4 := keep_cell hb2 a4
  replace b4 := keep_cell hb2 b4
  replace a5 := keep_cell hb2 a5
  replace b5 := keep_cell hb2 b5
  replace a6 := keep_cell hb2 a6
  replace b6 := keep_cell hb2 b6
  replace a7 := keep_cell hb2 a7
  replace b7 := keep_cell hb2 b7
  replace a8 := keep_cell hb2 a8
  replace b8 := keep_cell hb2 b8
  replace a9 := keep_cell hb2 a9
  replace b9 := keep_cell hb2 b9
  replace a10 := keep_cell hb2 a10
  replace b10 := keep_cell hb2 b10
  replace HB := bwh_call hb2 HB
  clear hb2 G2
  go_wp2_with fail
  go_region_held3 (fun w' => w'.cell? ⟨w.heap.size, 0, none⟩ = some (.int .i64 k) ∧ w'.cell? ⟨w.heap.size + 1, 0, none⟩ = some (.int .i64 k) ∧ w'.cell? ⟨w.heap.size, 1, none⟩ = some (.int .i64 g) ∧ w'.cell? ⟨w.heap.size + 1, 1, none⟩ = some (.int .i64 g) ∧ w'.cell? ⟨w.heap.size, 2, none⟩ = some (.int .i64 t) ∧ w'.cell? ⟨w.heap.size + 1, 2, none⟩ = some (.int .i64 t) ∧ w'.cell? ⟨w.heap.size, 3, none⟩ = some (.int .i64 p) ∧ w'.cell? ⟨w.heap.size + 1, 3, none⟩ = some (.int .i64 p) ∧ w'.cell? ⟨w.heap.size, 4, none⟩ = some (.int .i64 pg) ∧ w'.cell? ⟨w.heap.size + 1, 4, none⟩ = some (.int .i64 pg) ∧ w'.cell? ⟨w.heap.size, 5, none⟩ = some (.string key) ∧ w'.cell? ⟨w.heap.size + 1, 5, none⟩ = some (.string key2) ∧ w'.cell? ⟨w.heap.size, 6, none⟩ = some (.bool hb) ∧ w'.cell? ⟨w.heap.size + 1, 6, none⟩ = some (.bool hb2) ∧ w'.cell? ⟨w.heap.size, 7, none⟩ = some (.string sb) ∧ w'.cell? ⟨w.heap.size + 1, 7, none⟩ = some (.string sb2) ∧ w'.cell? ⟨w.heap.size, 8, none⟩ = some (.bool ha) ∧ w'.cell? ⟨w.heap.size + 1, 8, none⟩ = some (.bool ha2) ∧ w'.cell? ⟨w.heap.size, 9, none⟩ = some (.string sa) ∧ w'.cell? ⟨w.heap.size + 1, 9, none⟩ = some (.string sa2) ∧ w'.cell? ⟨w.heap.size, 10, none⟩ = some (.int .i64 u) ∧ w'.cell? ⟨w.heap.size + 1, 10, none⟩ = some (.int .i64 u2) ∧ Hid (Below w.heap.size w w'))
    ((refine ⟨?_, ?_, ?_, ?_, ?_, ?_, ?_, ?_, ?_, ?_, ?_, ?_, ?_, ?_, ?_, ?_, ?_, ?_, ?_, ?_, ?_, ?_, ?_⟩ <;> (repeat (first | with_reducible assumption | (with_reducible refine new_cell ?_ ?_ <;> first | rfl | (simp; done)) | with_reducible refine keep_alloc ?_ | with_reducible refine keep_drew ?_ | with_reducible refine keep_cell (by assumption) ?_ | with_reducible refine bwh_alloc ?_ | with_reducible refine bwh_drew ?_ | with_reducible refine bwh_call (by assumption) ?_))))
    (first
      | (go_at_call_of 12 (Value.agg #[.int .i64 k, .int .i64 g, .int .i64 t, .int .i64 p, .int .i64 pg, .string key, .bool hb, .string sb, .bool ha, .string sa, .int .i64 u]); refine (P1.out _ ?_).mono ?_; (repeat (first | with_reducible assumption | (with_reducible refine new_cell ?_ ?_ <;> first | rfl | (simp; done)) | with_reducible refine keep_alloc ?_ | with_reducible refine keep_drew ?_ | with_reducible refine keep_cell (by assumption) ?_ | with_reducible refine bwh_alloc ?_ | with_reducible refine bwh_drew ?_ | with_reducible refine bwh_call (by assumption) ?_)); rintro x wz ⟨rfl, hbz⟩)
      | (go_at_call_of 12 (Value.agg #[.int .i64 k, .int .i64 g, .int .i64 t, .int .i64 p, .int .i64 pg, .string key2, .bool hb2, .string sb2, .bool ha2, .string sa2, .int .i64 u2]); refine (P2.out _ ?_).mono ?_; (repeat (first | with_reducible assumption | (with_reducible refine new_cell ?_ ?_ <;> first | rfl | (simp; done)) | with_reducible refine keep_alloc ?_ | with_reducible refine keep_drew ?_ | with_reducible refine keep_cell (by assumption) ?_ | with_reducible refine bwh_alloc ?_ | with_reducible refine bwh_drew ?_ | with_reducible refine bwh_call (by assumption) ?_)); rintro x wz ⟨rfl, hbz⟩))
  go_wp2_with fail
  refine (K1.out _).mono ?_
  rintro x w3 ⟨rfl, hb3⟩
  have c0 : w3.cell? ⟨w.heap.size, 0, none⟩ = some (.int .i64 k) := by (repeat (first | with_reducible assumption | (with_reducible refine new_cell ?_ ?_ <;> first | rfl | (simp; done)) | with_reducible refine keep_alloc ?_ | with_reducible refine keep_drew ?_ | with_reducible refine keep_cell (by assumption) ?_ | with_reducible refine bwh_alloc ?_ | with_reducible refine bwh_drew ?_ | with_reducible refine bwh_call (by assumption) ?_))
  have d0 : w3.cell? ⟨w.heap.size + 1, 0, none⟩ = some (.int .i64 k) := by (repeat (first | with_reducible assumption | (with_reducible refine new_cell ?_ ?_ <;> first | rfl | (simp; done)) | with_reducible refine keep_alloc ?_ | with_reducible refine keep_drew ?_ | with_reducible refine keep_cell (by assumption) ?_ | with_reducible refine bwh_alloc ?_ | with_reducible refine bwh_drew ?_ | with_reducible refine bwh_call (by assumption) ?_))
  have c1 : w3.cell? ⟨w.heap.size, 1, none⟩ = some (.int .i64 g) := by (repeat (first | with_reducible assumption | (with_reducible refine new_cell ?_ ?_ <;> first | rfl | (simp; done)) | with_reducible refine keep_alloc ?_ | with_reducible refine keep_drew ?_ | with_reducible refine keep_cell (by assumption) ?_ | with_reducible refine bwh_alloc ?_ | with_reducible refine bwh_drew ?_ | with_reducible refine bwh_call (by assumption) ?_))
  have d1 : w3.cell? ⟨w.heap.size + 1, 1, none⟩ = some (.int .i64 g) := by (repeat (first | with_reducible assumption | (with_reducible refine new_cell ?_ ?_ <;> first | rfl | (simp; done)) | with_reducible refine keep_alloc ?_ | with_reducible refine keep_drew ?_ | with_reducible refine keep_cell (by assumption) ?_ | with_reducible refine bwh_alloc ?_ | with_reducible refine bwh_drew ?_ | with_reducible refine bwh_call (by assumption) ?_))
  have c2 : w3.cell? ⟨w.heap.size, 2, none⟩ = some (.int .i64 t) := by (repeat (first | with_reducible assumption | (with_reducible refine new_cell ?_ ?_ <;> first | rfl | (simp; done)) | with_reducible refine keep_alloc ?_ | with_reducible refine keep_drew ?_ | with_reducible refine keep_cell (by assumption) ?_ | with_reducible refine bwh_alloc ?_ | with_reducible refine bwh_drew ?_ | with_reducible refine bwh_call (by assumption) ?_))
  have d2 : w3.cell? ⟨w.heap.size + 1, 2, none⟩ = some (.int .i64 t) := by (repeat (first | with_reducible assumption | (with_reducible refine new_cell ?_ ?_ <;> first | rfl | (simp; done)) | with_reducible refine keep_alloc ?_ | with_reducible refine keep_drew ?_ | with_reducible refine keep_cell (by assumption) ?_ | with_reducible refine bwh_alloc ?_ | with_reducible refine bwh_drew ?_ | with_reducible refine bwh_call (by assumption) ?_))
  have c3 : w3.cell? ⟨w.heap.size, 3, none⟩ = some (.int .i64 p) := by (repeat (first | with_reducible assumption | (with_reducible refine new_cell ?_ ?_ <;> first | rfl | (simp; done)) | with_reducible refine keep_alloc ?_ | with_reducible refine keep_drew ?_ | with_reducible refine keep_cell (by assumption) ?_ | with_reducible refine bwh_alloc ?_ | with_reducible refine bwh_drew ?_ | with_reducible refine bwh_call (by assumption) ?_))
  have d3 : w3.cell? ⟨w.heap.size + 1, 3, none⟩ = some (.int .i64 p) := by (repeat (first | with_reducible assumption | (with_reducible refine new_cell ?_ ?_ <;> first | rfl | (simp; done)) | with_reducible refine keep_alloc ?_ | with_reducible refine keep_drew ?_ | with_reducible refine keep_cell (by assumption) ?_ | with_reducible refine bwh_alloc ?_ | with_reducible refine bwh_drew ?_ | with_reducible refine bwh_call (by assumption) ?_))
  have c4 : w3.cell? ⟨w.heap.size, 4, none⟩ = some (.int .i64 pg) := by (repeat (first | with_reducible assumption | (with_reducible refine new_cell ?_ ?_ <;> first | rfl | (simp; done)) | with_reducible refine keep_alloc ?_ | with_reducible refine keep_drew ?_ | with_reducible refine keep_cell (by assumption) ?_ | with_reducible refine bwh_alloc ?_ | with_reducible refine bwh_drew ?_ | with_reducible refine bwh_call (by assumption) ?_))
  have d4 : w3.cell? ⟨w.heap.size + 1, 4, none⟩ = some (.int .i64 pg) := by (repeat (first | with_reducible assumption | (with_reducible refine new_cell ?_ ?_ <;> first | rfl | (simp; done)) | with_reducible refine keep_alloc ?_ | with_reducible refine keep_drew ?_ | with_reducible refine keep_cell (by assumption) ?_ | with_reducible refine bwh_alloc ?_ | with_reducible refine bwh_drew ?_ | with_reducible refine bwh_call (by assumption) ?_))
  have c5 : w3.cell? ⟨w.heap.size, 5, none⟩ = some (.string key) := by (repeat (first | with_reducible assumption | (with_reducible refine new_cell ?_ ?_ <;> first | rfl | (simp; done)) | with_reducible refine keep_alloc ?_ | with_reducible refine keep_drew ?_ | with_reducible refine keep_cell (by assumption) ?_ | with_reducible refine bwh_alloc ?_ | with_reducible refine bwh_drew ?_ | with_reducible refine bwh_call (by assumption) ?_))
  have d5 : w3.cell? ⟨w.heap.size + 1, 5, none⟩ = some (.string key2) := by (repeat (first | with_reducible assumption | (with_reducible refine new_cell ?_ ?_ <;> first | rfl | (simp; done)) | with_reducible refine keep_alloc ?_ | with_reducible refine keep_drew ?_ | with_reducible refine keep_cell (by assumption) ?_ | with_reducible refine bwh_alloc ?_ | with_reducible refine bwh_drew ?_ | with_reducible refine bwh_call (by assumption) ?_))
  have c6 : w3.cell? ⟨w.heap.size, 6, none⟩ = some (.bool hb) := by (repeat (first | with_reducible assumption | (with_reducible refine new_cell ?_ ?_ <;> first | rfl | (simp; done)) | with_reducible refine keep_alloc ?_ | with_reducible refine keep_drew ?_ | with_reducible refine keep_cell (by assumption) ?_ | with_reducible refine bwh_alloc ?_ | with_reducible refine bwh_drew ?_ | with_reducible refine bwh_call (by assumption) ?_))
  have d6 : w3.cell? ⟨w.heap.size + 1, 6, none⟩ = some (.bool hb2) := by (repeat (first | with_reducible assumption | (with_reducible refine new_cell ?_ ?_ <;> first | rfl | (simp; done)) | with_reducible refine keep_alloc ?_ | with_reducible refine keep_drew ?_ | with_reducible refine keep_cell (by assumption) ?_ | with_reducible refine bwh_alloc ?_ | with_reducible refine bwh_drew ?_ | with_reducible refine bwh_call (by assumption) ?_))
  have c7 : w3.cell? ⟨w.heap.size, 7, none⟩ = some (.string sb) := by (repeat (first | with_reducible assumption | (with_reducible refine new_cell ?_ ?_ <;> first | rfl | (simp; done)) | with_reducible refine keep_alloc ?_ | with_reducible refine keep_drew ?_ | with_reducible refine keep_cell (by assumption) ?_ | with_reducible refine bwh_alloc ?_ | with_reducible refine bwh_drew ?_ | with_reducible refine bwh_call (by assumption) ?_))
  have d7 : w3.cell? ⟨w.heap.size + 1, 7, none⟩ = some (.string sb2) := by (repeat (first | with_reducible assumption | (with_reducible refine new_cell ?_ ?_ <;> first | rfl | (simp; done)) | with_reducible refine keep_alloc ?_ | with_reducible refine keep_drew ?_ | with_reducible refine keep_cell (by assumption) ?_ | with_reducible refine bwh_alloc ?_ | with_reducible refine bwh_drew ?_ | with_reducible refine bwh_call (by assumption) ?_))
  have c8 : w3.cell? ⟨w.heap.size, 8, none⟩ = some (.bool ha) := by (repeat (first | with_reducible assumption | (with_reducible refine new_cell ?_ ?_ <;> first | rfl | (simp; done)) | with_reducible refine keep_alloc ?_ | with_reducible refine keep_drew ?_ | with_reducible refine keep_cell (by assumption) ?_ | with_reducible refine bwh_alloc ?_ | with_reducible refine bwh_drew ?_ | with_reducible refine bwh_call (by assumption) ?_))
  have d8 : w3.cell? ⟨w.heap.size + 1, 8, none⟩ = some (.bool ha2) := by (repeat (first | with_reducible assumption | (with_reducible refine new_cell ?_ ?_ <;> first | rfl | (simp; done)) | with_reducible refine keep_alloc ?_ | with_reducible refine keep_drew ?_ | with_reducible refine keep_cell (by assumption) ?_ | with_reducible refine bwh_alloc ?_ | with_reducible refine bwh_drew ?_ | with_reducible refine bwh_call (by assumption) ?_))
  have c9 : w3.cell? ⟨w.heap.size, 9, none⟩ = some (.string sa) := by (repeat (first | with_reducible assumption | (with_reducible refine new_cell ?_ ?_ <;> first | rfl | (simp; done)) | with_reducible refine keep_alloc ?_ | with_reducible refine keep_drew ?_ | with_reducible refine keep_cell (by assumption) ?_ | with_reducible refine bwh_alloc ?_ | with_reducible refine bwh_drew ?_ | with_reducible refine bwh_call (by assumption) ?_))
  have d9 : w3.cell? ⟨w.heap.size + 1, 9, none⟩ = some (.string sa2) := by (repeat (first | with_reducible assumption | (with_reducible refine new_cell ?_ ?_ <;> first | rfl | (simp; done)) | with_reducible refine keep_alloc ?_ | with_reducible refine keep_drew ?_ | with_reducible refine keep_cell (by assumption) ?_ | with_reducible refine bwh_alloc ?_ | with_reducible refine bwh_drew ?_ | with_reducible refine bwh_call (by assumption) ?_))
  have c10 : w3.cell? ⟨w.heap.size, 10, none⟩ = some (.int .i64 u) := by (repeat (first | with_reducible assumption | (with_reducible refine new_cell ?_ ?_ <;> first | rfl | (simp; done)) | with_reducible refine keep_alloc ?_ | with_reducible refine keep_drew ?_ | with_reducible refine keep_cell (by assumption) ?_ | with_reducible refine bwh_alloc ?_ | with_reducible refine bwh_drew ?_ | with_reducible refine bwh_call (by assumption) ?_))
  have d10 : w3.cell? ⟨w.heap.size + 1, 10, none⟩ = some (.int .i64 u2) := by (repeat (first | with_reducible assumption | (with_reducible refine new_cell ?_ ?_ <;> first | rfl | (simp; done)) | with_reducible refine keep_alloc ?_ | with_reducible refine keep_drew ?_ | with_reducible refine keep_cell (by assumption) ?_ | with_reducible refine bwh_alloc ?_ | with_reducible refine bwh_drew ?_ | with_reducible refine bwh_call (by assumption) ?_))
  have HB2 : Hid (Below w.heap.size w w3) := by (repeat (first | with_reducible assumption | (with_reducible refine new_cell ?_ ?_ <;> first | rfl | (simp; done)) | with_reducible refine keep_alloc ?_ | with_reducible refine keep_drew ?_ | with_reducible refine keep_cell (by assumption) ?_ | with_reducible refine bwh_alloc ?_ | with_reducible refine bwh_drew ?_ | with_reducible refine bwh_call (by assumption) ?_))
  clear hb3 K1 HB a0 b0 a1 b1 a2 b2 a3 b3 a4 b4 a5 b5 a6 b6 a7 b7 a8 b8 a9 b9 a10 b10
  go_wp2_with fail
  refine (KR.out _).mono ?_
  rintro x w4 ⟨rfl, hb4⟩
  replace c0 := keep_cell hb4 c0
  replace d0 := keep_cell hb4 d0
  replace c1 := keep_cell hb4 c1
  replace d1 := keep_cell hb4 d1
  replace c2 := keep_cell hb4 c2
  replace d2 := keep_cell hb4 d2
  replace c3 := keep_cell hb4 c3
  replace d3 := keep_cell hb4 d3
  replace c4 := keep_cell hb4 c4
  replace d4 := keep_cell hb4 d4
  replace c5 := keep_cell hb4 c5
  replace d5 := keep_cell hb4 d5
  replace c6 := keep_cell hb4 c6
  replace d6 := keep_cell hb4 d6
  replace c7 := keep_cell hb4 c7
  replace d7 := keep_cell hb4 d7
  replace c8 := keep_cell hb4 c8
  replace d8 := keep_cell hb4 d8
  replace c9 := keep_cell hb4 c9
  replace d9 := keep_cell hb4 d9
  replace c10 := keep_cell hb4 c10
  replace d10 := keep_cell hb4 d10
  replace HB2 := bwh_call hb4 HB2
  clear hb4 KR
  go_wp2_with fail
  refine (KA.out _ HB2).mono ?_
  rintro x w5 ⟨rfl, hb5⟩
  have hbe := bw_call hb5 HB2.out
  go_wp2
  go_ret
  exact ⟨rfl, hbe⟩

set_option maxRecDepth 100000 in
set_option maxHeartbeats 4000000 in
theorem prints_d6t (k : Int) (g : Int) (t : Int) (p : Int) (pg : Int) (key : ByteArray) (sb : ByteArray) (ha : Bool) (sa : ByteArray) (u : Int) (sb2 : ByteArray) (ha2 : Bool) (sa2 : ByteArray) (u2 : Int) (PA PB : ByteArray) (w : World)
    (KA : Hid (∀ W, Hid (Below w.heap.size w W) → Calls Tryd.prog 6 #[] W fun e w' => e = .returned (.bool true) ∧ Below W.heap.size W w'))
    (G1 : Hid (∀ W, Calls Tryd.prog 5 #[.agg #[.int .i64 k, .int .i64 g, .int .i64 t, .int .i64 p, .int .i64 pg, .string key, .bool true, .string sb, .bool ha, .string sa, .int .i64 u]] W fun e w' => e = .returned (.bool false) ∧ Below W.heap.size W w'))
    (G2 : Hid (∀ W, Calls Tryd.prog 5 #[.agg #[.int .i64 k, .int .i64 g, .int .i64 t, .int .i64 p, .int .i64 pg, .string key, .bool false, .string sb2, .bool ha2, .string sa2, .int .i64 u2]] W fun e w' => e = .returned (.bool false) ∧ Below W.heap.size W w'))
    (P1 : Hid (∀ W, Hid (Below w.heap.size w W) → Calls Tryd.prog 12 #[.agg #[.int .i64 k, .int .i64 g, .int .i64 t, .int .i64 p, .int .i64 pg, .string key, .bool true, .string sb, .bool ha, .string sa, .int .i64 u]] W fun e w' => e = .returned (.string PA) ∧ Below W.heap.size W w'))
    (P2 : Hid (∀ W, Hid (Below w.heap.size w W) → Calls Tryd.prog 12 #[.agg #[.int .i64 k, .int .i64 g, .int .i64 t, .int .i64 p, .int .i64 pg, .string key, .bool false, .string sb2, .bool ha2, .string sa2, .int .i64 u2]] W fun e w' => e = .returned (.string PB) ∧ Below W.heap.size W w'))
    (K1 : Hid (∀ W, Calls Tryd.prog 10 #[.agg #[.int .i64 k, .int .i64 g, .int .i64 t, .int .i64 p, .int .i64 pg, .string key, .bool true, .string sb, .bool ha, .string sa, .int .i64 u]] W fun e w' => e = .returned (.bool true) ∧ Below W.heap.size W w'))
    (KR : Hid (∀ W, Calls Tryd.prog 13 #[.agg #[.int .i64 k, .int .i64 g, .int .i64 t, .int .i64 p, .int .i64 pg, .string key, .bool true, .string sb, .bool ha, .string sa, .int .i64 u]] W fun e w' => e = .returned (.string PA) ∧ Below W.heap.size W w'))
    (f0 : PA.toList ≠ []) (f1 : PA.toList.isEmpty = false) (f2 : PB.toList ≠ []) (f3 : PB.toList.isEmpty = false) (f4 : (PA.toList == PB.toList) = false) :
    Calls Tryd.prog 4 #[.agg #[.int .i64 k, .int .i64 g, .int .i64 t, .int .i64 p, .int .i64 pg, .string key, .bool true, .string sb, .bool ha, .string sa, .int .i64 u], .agg #[.int .i64 k, .int .i64 g, .int .i64 t, .int .i64 p, .int .i64 pg, .string key, .bool false, .string sb2, .bool ha2, .string sa2, .int .i64 u2]] w fun e w' => e = .returned (.bool true) ∧ Below w.heap.size w w' := by
  go_enter Tryd.func4, Tryd.ntmps4
  go_wp2_with fail
  refine (G1.out _).mono ?_
  rintro x w1 ⟨rfl, hb1⟩
  have a0 : w1.cell? ⟨w.heap.size, 0, none⟩ = some (.int .i64 k) := keep_cell hb1 (keep_alloc (new_cell rfl rfl))
  have b0 : w1.cell? ⟨w.heap.size + 1, 0, none⟩ = some (.int .i64 k) := keep_cell hb1 (new_cell (by rw [World.size_alloc]) rfl)
  have a1 : w1.cell? ⟨w.heap.size, 1, none⟩ = some (.int .i64 g) := keep_cell hb1 (keep_alloc (new_cell rfl rfl))
  have b1 : w1.cell? ⟨w.heap.size + 1, 1, none⟩ = some (.int .i64 g) := keep_cell hb1 (new_cell (by rw [World.size_alloc]) rfl)
  have a2 : w1.cell? ⟨w.heap.size, 2, none⟩ = some (.int .i64 t) := keep_cell hb1 (keep_alloc (new_cell rfl rfl))
  have b2 : w1.cell? ⟨w.heap.size + 1, 2, none⟩ = some (.int .i64 t) := keep_cell hb1 (new_cell (by rw [World.size_alloc]) rfl)
  have a3 : w1.cell? ⟨w.heap.size, 3, none⟩ = some (.int .i64 p) := keep_cell hb1 (keep_alloc (new_cell rfl rfl))
  have b3 : w1.cell? ⟨w.heap.size + 1, 3, none⟩ = some (.int .i64 p) := keep_cell hb1 (new_cell (by rw [World.size_alloc]) rfl)
  have a4 : w1.cell? ⟨w.heap.size, 4, none⟩ = some (.int .i64 pg) := keep_cell hb1 (keep_alloc (new_cell rfl rfl))
  have b4 : w1.cell? ⟨w.heap.size + 1, 4, none⟩ = some (.int .i64 pg) := keep_cell hb1 (new_cell (by rw [World.size_alloc]) rfl)
  have a5 : w1.cell? ⟨w.heap.size, 5, none⟩ = some (.string key) := keep_cell hb1 (keep_alloc (new_cell rfl rfl))
  have b5 : w1.cell? ⟨w.heap.size + 1, 5, none⟩ = some (.string key) := keep_cell hb1 (new_cell (by rw [World.size_alloc]) rfl)
  have a6 : w1.cell? ⟨w.heap.size, 6, none⟩ = some (.bool true) := keep_cell hb1 (keep_alloc (new_cell rfl rfl))
  have b6 : w1.cell? ⟨w.heap.size + 1, 6, none⟩ = some (.bool false) := keep_cell hb1 (new_cell (by rw [World.size_alloc]) rfl)
  have a7 : w1.cell? ⟨w.heap.size, 7, none⟩ = some (.string sb) := keep_cell hb1 (keep_alloc (new_cell rfl rfl))
  have b7 : w1.cell? ⟨w.heap.size + 1, 7, none⟩ = some (.string sb2) := keep_cell hb1 (new_cell (by rw [World.size_alloc]) rfl)
  have a8 : w1.cell? ⟨w.heap.size, 8, none⟩ = some (.bool ha) := keep_cell hb1 (keep_alloc (new_cell rfl rfl))
  have b8 : w1.cell? ⟨w.heap.size + 1, 8, none⟩ = some (.bool ha2) := keep_cell hb1 (new_cell (by rw [World.size_alloc]) rfl)
  have a9 : w1.cell? ⟨w.heap.size, 9, none⟩ = some (.string sa) := keep_cell hb1 (keep_alloc (new_cell rfl rfl))
  have b9 : w1.cell? ⟨w.heap.size + 1, 9, none⟩ = some (.string sa2) := keep_cell hb1 (new_cell (by rw [World.size_alloc]) rfl)
  have a10 : w1.cell? ⟨w.heap.size, 10, none⟩ = some (.int .i64 u) := keep_cell hb1 (keep_alloc (new_cell rfl rfl))
  have b10 : w1.cell? ⟨w.heap.size + 1, 10, none⟩ = some (.int .i64 u2) := keep_cell hb1 (new_cell (by rw [World.size_alloc]) rfl)
  have HB : Hid (Below w.heap.size w w1) := bwh_call hb1 (bwh_alloc (bwh_alloc (Below.refl _ _)))
  clear hb1 G1
  go_wp2_with fail
  refine (G2.out _).mono ?_
  rintro x w2 ⟨rfl, hb2⟩
  replace a0 := keep_cell hb2 a0
  replace b0 := keep_cell hb2 b0
  replace a1 := keep_cell hb2 a1
  replace b1 := keep_cell hb2 b1
  replace a2 := keep_cell hb2 a2
  replace b2 := keep_cell hb2 b2
  replace a3 := keep_cell hb2 a3
  replace b3 := keep_cell hb2 b3
  replace a4 := keep_cell hb2 a4
  replace b4 := keep_cell hb2 b4
  replace a5 := keep_cell hb2 a5
  replace b5 := keep_cell hb2 b5
  replace a6 := keep_cell hb2 a6
  replace b6 := keep_cell hb2 b6
  replace a7 := keep_cell hb2 a7
  replace b7 := keep_cell hb2 b7
  replace a8 := keep_cell hb2 a8
  replace b8 := keep_cell hb2 b8
  replace a9 := keep_cell hb2 a9
  replace b9 := keep_cell hb2 b9
  replace a10 := keep_cell hb2 a10
  replace b10 := keep_cell hb2 b10
  replace HB := bwh_call hb2 HB
  clear hb2 G2
  go_wp2_with fail
  go_region_held3 (fun w' => w'.cell? ⟨w.heap.size, 0, none⟩ = some (.int .i64 k) ∧ w'.cell? ⟨w.heap.size + 1, 0, none⟩ = some (.int .i64 k) ∧ w'.cell? ⟨w.heap.size, 1, none⟩ = some (.int .i64 g) ∧ w'.cell? ⟨w.heap.size + 1, 1, none⟩ = some (.int .i64 g) ∧ w'.cell? ⟨w.heap.size, 2, none⟩ = some (.int .i64 t) ∧ w'.cell? ⟨w.heap.size + 1, 2, none⟩ = some (.int .i64 t) ∧ w'.cell? ⟨w.heap.size, 3, none⟩ = some (.int .i64 p) ∧ w'.cell? ⟨w.heap.size + 1, 3, none⟩ = some (.int .i64 p) ∧ w'.cell? ⟨w.heap.size, 4, none⟩ = some (.int .i64 pg) ∧ w'.cell? ⟨w.heap.size + 1, 4, none⟩ = some (.int .i64 pg) ∧ w'.cell? ⟨w.heap.size, 5, none⟩ = some (.string key) ∧ w'.cell? ⟨w.heap.size + 1, 5, none⟩ = some (.string key) ∧ w'.cell? ⟨w.heap.size, 6, none⟩ = some (.bool true) ∧ w'.cell? ⟨w.heap.size + 1, 6, none⟩ = some (.bool false) ∧ w'.cell? ⟨w.heap.size, 7, none⟩ = some (.string sb) ∧ w'.cell? ⟨w.heap.size + 1, 7, none⟩ = some (.string sb2) ∧ w'.cell? ⟨w.heap.size, 8, none⟩ = some (.bool ha) ∧ w'.cell? ⟨w.heap.size + 1, 8, none⟩ = some (.bool ha2) ∧ w'.cell? ⟨w.heap.size, 9, none⟩ = some (.string sa) ∧ w'.cell? ⟨w.heap.size + 1, 9, none⟩ = some (.string sa2) ∧ w'.cell? ⟨w.heap.size, 10, none⟩ = some (.int .i64 u) ∧ w'.cell? ⟨w.heap.size + 1, 10, none⟩ = some (.int .i64 u2) ∧ Hid (Below w.heap.size w w'))
    ((refine ⟨?_, ?_, ?_, ?_, ?_, ?_, ?_, ?_, ?_, ?_, ?_, ?_, ?_, ?_, ?_, ?_, ?_, ?_, ?_, ?_, ?_, ?_, ?_⟩ <;> (repeat (first | with_reducible assumption | (with_reducible refine new_cell ?_ ?_ <;> first | rfl | (simp; done)) | with_reducible refine keep_alloc ?_ | with_reducible refine keep_drew ?_ | with_reducible refine keep_cell (by assumption) ?_ | with_reducible refine bwh_alloc ?_ | with_reducible refine bwh_drew ?_ | with_reducible refine bwh_call (by assumption) ?_))))
    (first
      | (go_at_call_of 12 (Value.agg #[.int .i64 k, .int .i64 g, .int .i64 t, .int .i64 p, .int .i64 pg, .string key, .bool true, .string sb, .bool ha, .string sa, .int .i64 u]); refine (P1.out _ ?_).mono ?_; (repeat (first | with_reducible assumption | (with_reducible refine new_cell ?_ ?_ <;> first | rfl | (simp; done)) | with_reducible refine keep_alloc ?_ | with_reducible refine keep_drew ?_ | with_reducible refine keep_cell (by assumption) ?_ | with_reducible refine bwh_alloc ?_ | with_reducible refine bwh_drew ?_ | with_reducible refine bwh_call (by assumption) ?_)); rintro x wz ⟨rfl, hbz⟩)
      | (go_at_call_of 12 (Value.agg #[.int .i64 k, .int .i64 g, .int .i64 t, .int .i64 p, .int .i64 pg, .string key, .bool false, .string sb2, .bool ha2, .string sa2, .int .i64 u2]); refine (P2.out _ ?_).mono ?_; (repeat (first | with_reducible assumption | (with_reducible refine new_cell ?_ ?_ <;> first | rfl | (simp; done)) | with_reducible refine keep_alloc ?_ | with_reducible refine keep_drew ?_ | with_reducible refine keep_cell (by assumption) ?_ | with_reducible refine bwh_alloc ?_ | with_reducible refine bwh_drew ?_ | with_reducible refine bwh_call (by assumption) ?_)); rintro x wz ⟨rfl, hbz⟩))
  go_wp2_with fail
  refine (K1.out _).mono ?_
  rintro x w3 ⟨rfl, hb3⟩
  have c0 : w3.cell? ⟨w.heap.size, 0, none⟩ = some (.int .i64 k) := by (repeat (first | with_reducible assumption | (with_reducible refine new_cell ?_ ?_ <;> first | rfl | (simp; done)) | with_reducible refine keep_alloc ?_ | with_reducible refine keep_drew ?_ | with_reducible refine keep_cell (by assumption) ?_ | with_reducible refine bwh_alloc ?_ | with_reducible refine bwh_drew ?_ | with_reducible refine bwh_call (by assumption) ?_))
  have d0 : w3.cell? ⟨w.heap.size + 1, 0, none⟩ = some (.int .i64 k) := by (repeat (first | with_reducible assumption | (with_reducible refine new_cell ?_ ?_ <;> first | rfl | (simp; done)) | with_reducible refine keep_alloc ?_ | with_reducible refine keep_drew ?_ | with_reducible refine keep_cell (by assumption) ?_ | with_reducible refine bwh_alloc ?_ | with_reducible refine bwh_drew ?_ | with_reducible refine bwh_call (by assumption) ?_))
  have c1 : w3.cell? ⟨w.heap.size, 1, none⟩ = some (.int .i64 g) := by (repeat (first | with_reducible assumption | (with_reducible refine new_cell ?_ ?_ <;> first | rfl | (simp; done)) | with_reducible refine keep_alloc ?_ | with_reducible refine keep_drew ?_ | with_reducible refine keep_cell (by assumption) ?_ | with_reducible refine bwh_alloc ?_ | with_reducible refine bwh_drew ?_ | with_reducible refine bwh_call (by assumption) ?_))
  have d1 : w3.cell? ⟨w.heap.size + 1, 1, none⟩ = some (.int .i64 g) := by (repeat (first | with_reducible assumption | (with_reducible refine new_cell ?_ ?_ <;> first | rfl | (simp; done)) | with_reducible refine keep_alloc ?_ | with_reducible refine keep_drew ?_ | with_reducible refine keep_cell (by assumption) ?_ | with_reducible refine bwh_alloc ?_ | with_reducible refine bwh_drew ?_ | with_reducible refine bwh_call (by assumption) ?_))
  have c2 : w3.cell? ⟨w.heap.size, 2, none⟩ = some (.int .i64 t) := by (repeat (first | with_reducible assumption | (with_reducible refine new_cell ?_ ?_ <;> first | rfl | (simp; done)) | with_reducible refine keep_alloc ?_ | with_reducible refine keep_drew ?_ | with_reducible refine keep_cell (by assumption) ?_ | with_reducible refine bwh_alloc ?_ | with_reducible refine bwh_drew ?_ | with_reducible refine bwh_call (by assumption) ?_))
  have d2 : w3.cell? ⟨w.heap.size + 1, 2, none⟩ = some (.int .i64 t) := by (repeat (first | with_reducible assumption | (with_reducible refine new_cell ?_ ?_ <;> first | rfl | (simp; done)) | with_reducible refine keep_alloc ?_ | with_reducible refine keep_drew ?_ | with_reducible refine keep_cell (by assumption) ?_ | with_reducible refine bwh_alloc ?_ | with_reducible refine bwh_drew ?_ | with_reducible refine bwh_call (by assumption) ?_))
  have c3 : w3.cell? ⟨w.heap.size, 3, none⟩ = some (.int .i64 p) := by (repeat (first | with_reducible assumption | (with_reducible refine new_cell ?_ ?_ <;> first | rfl | (simp; done)) | with_reducible refine keep_alloc ?_ | with_reducible refine keep_drew ?_ | with_reducible refine keep_cell (by assumption) ?_ | with_reducible refine bwh_alloc ?_ | with_reducible refine bwh_drew ?_ | with_reducible refine bwh_call (by assumption) ?_))
  have d3 : w3.cell? ⟨w.heap.size + 1, 3, none⟩ = some (.int .i64 p) := by (repeat (first | with_reducible assumption | (with_reducible refine new_cell ?_ ?_ <;> first | rfl | (simp; done)) | with_reducible refine keep_alloc ?_ | with_reducible refine keep_drew ?_ | with_reducible refine keep_cell (by assumption) ?_ | with_reducible refine bwh_alloc ?_ | with_reducible refine bwh_drew ?_ | with_reducible refine bwh_call (by assumption) ?_))
  have c4 : w3.cell? ⟨w.heap.size, 4, none⟩ = some (.int .i64 pg) := by (repeat (first | with_reducible assumption | (with_reducible refine new_cell ?_ ?_ <;> first | rfl | (simp; done)) | with_reducible refine keep_alloc ?_ | with_reducible refine keep_drew ?_ | with_reducible refine keep_cell (by assumption) ?_ | with_reducible refine bwh_alloc ?_ | with_reducible refine bwh_drew ?_ | with_reducible refine bwh_call (by assumption) ?_))
  have d4 : w3.cell? ⟨w.heap.size + 1, 4, none⟩ = some (.int .i64 pg) := by (repeat (first | with_reducible assumption | (with_reducible refine new_cell ?_ ?_ <;> first | rfl | (simp; done)) | with_reducible refine keep_alloc ?_ | with_reducible refine keep_drew ?_ | with_reducible refine keep_cell (by assumption) ?_ | with_reducible refine bwh_alloc ?_ | with_reducible refine bwh_drew ?_ | with_reducible refine bwh_call (by assumption) ?_))
  have c5 : w3.cell? ⟨w.heap.size, 5, none⟩ = some (.string key) := by (repeat (first | with_reducible assumption | (with_reducible refine new_cell ?_ ?_ <;> first | rfl | (simp; done)) | with_reducible refine keep_alloc ?_ | with_reducible refine keep_drew ?_ | with_reducible refine keep_cell (by assumption) ?_ | with_reducible refine bwh_alloc ?_ | with_reducible refine bwh_drew ?_ | with_reducible refine bwh_call (by assumption) ?_))
  have d5 : w3.cell? ⟨w.heap.size + 1, 5, none⟩ = some (.string key) := by (repeat (first | with_reducible assumption | (with_reducible refine new_cell ?_ ?_ <;> first | rfl | (simp; done)) | with_reducible refine keep_alloc ?_ | with_reducible refine keep_drew ?_ | with_reducible refine keep_cell (by assumption) ?_ | with_reducible refine bwh_alloc ?_ | with_reducible refine bwh_drew ?_ | with_reducible refine bwh_call (by assumption) ?_))
  have c6 : w3.cell? ⟨w.heap.size, 6, none⟩ = some (.bool true) := by (repeat (first | with_reducible assumption | (with_reducible refine new_cell ?_ ?_ <;> first | rfl | (simp; done)) | with_reducible refine keep_alloc ?_ | with_reducible refine keep_drew ?_ | with_reducible refine keep_cell (by assumption) ?_ | with_reducible refine bwh_alloc ?_ | with_reducible refine bwh_drew ?_ | with_reducible refine bwh_call (by assumption) ?_))
  have d6 : w3.cell? ⟨w.heap.size + 1, 6, none⟩ = some (.bool false) := by (repeat (first | with_reducible assumption | (with_reducible refine new_cell ?_ ?_ <;> first | rfl | (simp; done)) | with_reducible refine keep_alloc ?_ | with_reducible refine keep_drew ?_ | with_reducible refine keep_cell (by assumption) ?_ | with_reducible refine bwh_alloc ?_ | with_reducible refine bwh_drew ?_ | with_reducible refine bwh_call (by assumption) ?_))
  have c7 : w3.cell? ⟨w.heap.size, 7, none⟩ = some (.string sb) := by (repeat (first | with_reducible assumption | (with_reducible refine new_cell ?_ ?_ <;> first | rfl | (simp; done)) | with_reducible refine keep_alloc ?_ | with_reducible refine keep_drew ?_ | with_reducible refine keep_cell (by assumption) ?_ | with_reducible refine bwh_alloc ?_ | with_reducible refine bwh_drew ?_ | with_reducible refine bwh_call (by assumption) ?_))
  have d7 : w3.cell? ⟨w.heap.size + 1, 7, none⟩ = some (.string sb2) := by (repeat (first | with_reducible assumption | (with_reducible refine new_cell ?_ ?_ <;> first | rfl | (simp; done)) | with_reducible refine keep_alloc ?_ | with_reducible refine keep_drew ?_ | with_reducible refine keep_cell (by assumption) ?_ | with_reducible refine bwh_alloc ?_ | with_reducible refine bwh_drew ?_ | with_reducible refine bwh_call (by assumption) ?_))
  have c8 : w3.cell? ⟨w.heap.size, 8, none⟩ = some (.bool ha) := by (repeat (first | with_reducible assumption | (with_reducible refine new_cell ?_ ?_ <;> first | rfl | (simp; done)) | with_reducible refine keep_alloc ?_ | with_reducible refine keep_drew ?_ | with_reducible refine keep_cell (by assumption) ?_ | with_reducible refine bwh_alloc ?_ | with_reducible refine bwh_drew ?_ | with_reducible refine bwh_call (by assumption) ?_))
  have d8 : w3.cell? ⟨w.heap.size + 1, 8, none⟩ = some (.bool ha2) := by (repeat (first | with_reducible assumption | (with_reducible refine new_cell ?_ ?_ <;> first | rfl | (simp; done)) | with_reducible refine keep_alloc ?_ | with_reducible refine keep_drew ?_ | with_reducible refine keep_cell (by assumption) ?_ | with_reducible refine bwh_alloc ?_ | with_reducible refine bwh_drew ?_ | with_reducible refine bwh_call (by assumption) ?_))
  have c9 : w3.cell? ⟨w.heap.size, 9, none⟩ = some (.string sa) := by (repeat (first | with_reducible assumption | (with_reducible refine new_cell ?_ ?_ <;> first | rfl | (simp; done)) | with_reducible refine keep_alloc ?_ | with_reducible refine keep_drew ?_ | with_reducible refine keep_cell (by assumption) ?_ | with_reducible refine bwh_alloc ?_ | with_reducible refine bwh_drew ?_ | with_reducible refine bwh_call (by assumption) ?_))
  have d9 : w3.cell? ⟨w.heap.size + 1, 9, none⟩ = some (.string sa2) := by (repeat (first | with_reducible assumption | (with_reducible refine new_cell ?_ ?_ <;> first | rfl | (simp; done)) | with_reducible refine keep_alloc ?_ | with_reducible refine keep_drew ?_ | with_reducible refine keep_cell (by assumption) ?_ | with_reducible refine bwh_alloc ?_ | with_reducible refine bwh_drew ?_ | with_reducible refine bwh_call (by assumption) ?_))
  have c10 : w3.cell? ⟨w.heap.size, 10, none⟩ = some (.int .i64 u) := by (repeat (first | with_reducible assumption | (with_reducible refine new_cell ?_ ?_ <;> first | rfl | (simp; done)) | with_reducible refine keep_alloc ?_ | with_reducible refine keep_drew ?_ | with_reducible refine keep_cell (by assumption) ?_ | with_reducible refine bwh_alloc ?_ | with_reducible refine bwh_drew ?_ | with_reducible refine bwh_call (by assumption) ?_))
  have d10 : w3.cell? ⟨w.heap.size + 1, 10, none⟩ = some (.int .i64 u2) := by (repeat (first | with_reducible assumption | (with_reducible refine new_cell ?_ ?_ <;> first | rfl | (simp; done)) | with_reducible refine keep_alloc ?_ | with_reducible refine keep_drew ?_ | with_reducible refine keep_cell (by assumption) ?_ | with_reducible refine bwh_alloc ?_ | with_reducible refine bwh_drew ?_ | with_reducible refine bwh_call (by assumption) ?_))
  have HB2 : Hid (Below w.heap.size w w3) := by (repeat (first | with_reducible assumption | (with_reducible refine new_cell ?_ ?_ <;> first | rfl | (simp; done)) | with_reducible refine keep_alloc ?_ | with_reducible refine keep_drew ?_ | with_reducible refine keep_cell (by assumption) ?_ | with_reducible refine bwh_alloc ?_ | with_reducible refine bwh_drew ?_ | with_reducible refine bwh_call (by assumption) ?_))
  clear hb3 K1 HB a0 b0 a1 b1 a2 b2 a3 b3 a4 b4 a5 b5 a6 b6 a7 b7 a8 b8 a9 b9 a10 b10
  go_wp2_with fail
  refine (KR.out _).mono ?_
  rintro x w4 ⟨rfl, hb4⟩
  replace c0 := keep_cell hb4 c0
  replace d0 := keep_cell hb4 d0
  replace c1 := keep_cell hb4 c1
  replace d1 := keep_cell hb4 d1
  replace c2 := keep_cell hb4 c2
  replace d2 := keep_cell hb4 d2
  replace c3 := keep_cell hb4 c3
  replace d3 := keep_cell hb4 d3
  replace c4 := keep_cell hb4 c4
  replace d4 := keep_cell hb4 d4
  replace c5 := keep_cell hb4 c5
  replace d5 := keep_cell hb4 d5
  replace c6 := keep_cell hb4 c6
  replace d6 := keep_cell hb4 d6
  replace c7 := keep_cell hb4 c7
  replace d7 := keep_cell hb4 d7
  replace c8 := keep_cell hb4 c8
  replace d8 := keep_cell hb4 d8
  replace c9 := keep_cell hb4 c9
  replace d9 := keep_cell hb4 d9
  replace c10 := keep_cell hb4 c10
  replace d10 := keep_cell hb4 d10
  replace HB2 := bwh_call hb4 HB2
  clear hb4 KR
  go_wp2_with fail
  refine (KA.out _ HB2).mono ?_
  rintro x w5 ⟨rfl, hb5⟩
  have hbe := bw_call hb5 HB2.out
  go_wp2
  go_ret
  exact ⟨rfl, hbe⟩

set_option maxRecDepth 100000 in
set_option maxHeartbeats 4000000 in
theorem prints_d6f (k : Int) (g : Int) (t : Int) (p : Int) (pg : Int) (key : ByteArray) (sb : ByteArray) (ha : Bool) (sa : ByteArray) (u : Int) (sb2 : ByteArray) (ha2 : Bool) (sa2 : ByteArray) (u2 : Int) (PA PB : ByteArray) (w : World)
    (KA : Hid (∀ W, Hid (Below w.heap.size w W) → Calls Tryd.prog 6 #[] W fun e w' => e = .returned (.bool true) ∧ Below W.heap.size W w'))
    (G1 : Hid (∀ W, Calls Tryd.prog 5 #[.agg #[.int .i64 k, .int .i64 g, .int .i64 t, .int .i64 p, .int .i64 pg, .string key, .bool false, .string sb, .bool ha, .string sa, .int .i64 u]] W fun e w' => e = .returned (.bool false) ∧ Below W.heap.size W w'))
    (G2 : Hid (∀ W, Calls Tryd.prog 5 #[.agg #[.int .i64 k, .int .i64 g, .int .i64 t, .int .i64 p, .int .i64 pg, .string key, .bool true, .string sb2, .bool ha2, .string sa2, .int .i64 u2]] W fun e w' => e = .returned (.bool false) ∧ Below W.heap.size W w'))
    (P1 : Hid (∀ W, Hid (Below w.heap.size w W) → Calls Tryd.prog 12 #[.agg #[.int .i64 k, .int .i64 g, .int .i64 t, .int .i64 p, .int .i64 pg, .string key, .bool false, .string sb, .bool ha, .string sa, .int .i64 u]] W fun e w' => e = .returned (.string PA) ∧ Below W.heap.size W w'))
    (P2 : Hid (∀ W, Hid (Below w.heap.size w W) → Calls Tryd.prog 12 #[.agg #[.int .i64 k, .int .i64 g, .int .i64 t, .int .i64 p, .int .i64 pg, .string key, .bool true, .string sb2, .bool ha2, .string sa2, .int .i64 u2]] W fun e w' => e = .returned (.string PB) ∧ Below W.heap.size W w'))
    (K1 : Hid (∀ W, Calls Tryd.prog 10 #[.agg #[.int .i64 k, .int .i64 g, .int .i64 t, .int .i64 p, .int .i64 pg, .string key, .bool false, .string sb, .bool ha, .string sa, .int .i64 u]] W fun e w' => e = .returned (.bool true) ∧ Below W.heap.size W w'))
    (KR : Hid (∀ W, Calls Tryd.prog 13 #[.agg #[.int .i64 k, .int .i64 g, .int .i64 t, .int .i64 p, .int .i64 pg, .string key, .bool false, .string sb, .bool ha, .string sa, .int .i64 u]] W fun e w' => e = .returned (.string PA) ∧ Below W.heap.size W w'))
    (f0 : PA.toList ≠ []) (f1 : PA.toList.isEmpty = false) (f2 : PB.toList ≠ []) (f3 : PB.toList.isEmpty = false) (f4 : (PA.toList == PB.toList) = false) :
    Calls Tryd.prog 4 #[.agg #[.int .i64 k, .int .i64 g, .int .i64 t, .int .i64 p, .int .i64 pg, .string key, .bool false, .string sb, .bool ha, .string sa, .int .i64 u], .agg #[.int .i64 k, .int .i64 g, .int .i64 t, .int .i64 p, .int .i64 pg, .string key, .bool true, .string sb2, .bool ha2, .string sa2, .int .i64 u2]] w fun e w' => e = .returned (.bool true) ∧ Below w.heap.size w w' := by
  go_enter Tryd.func4, Tryd.ntmps4
  go_wp2_with fail
  refine (G1.out _).mono ?_
  rintro x w1 ⟨rfl, hb1⟩
  have a0 : w1.cell? ⟨w.heap.size, 0, none⟩ = some (.int .i64 k) := keep_cell hb1 (keep_alloc (new_cell rfl rfl))
  have b0 : w1.cell? ⟨w.heap.size + 1, 0, none⟩ = some (.int .i64 k) := keep_cell hb1 (new_cell (by rw [World.size_alloc]) rfl)
  have a1 : w1.cell? ⟨w.heap.size, 1, none⟩ = some (.int .i64 g) := keep_cell hb1 (keep_alloc (new_cell rfl rfl))
  have b1 : w1.cell? ⟨w.heap.size + 1, 1, none⟩ = some (.int .i64 g) := keep_cell hb1 (new_cell (by rw [World.size_alloc]) rfl)
  have a2 : w1.cell? ⟨w.heap.size, 2, none⟩ = some (.int .i64 t) := keep_cell hb1 (keep_alloc (new_cell rfl rfl))
  have b2 : w1.cell? ⟨w.heap.size + 1, 2, none⟩ = some (.int .i64 t) := keep_cell hb1 (new_cell (by rw [World.size_alloc]) rfl)
  have a3 : w1.cell? ⟨w.heap.size, 3, none⟩ = some (.int .i64 p) := keep_cell hb1 (keep_alloc (new_cell rfl rfl))
  have b3 : w1.cell? ⟨w.heap.size + 1, 3, none⟩ = some (.int .i64 p) := keep_cell hb1 (new_cell (by rw [World.size_alloc]) rfl)
  have a4 : w1.cell? ⟨w.heap.size, 4, none⟩ = some (.int .i64 pg) := keep_cell hb1 (keep_alloc (new_cell rfl rfl))
  have b4 : w1.cell? ⟨w.heap.size + 1, 4, none⟩ = some (.int .i64 pg) := keep_cell hb1 (new_cell (by rw [World.size_alloc]) rfl)
  have a5 : w1.cell? ⟨w.heap.size, 5, none⟩ = some (.string key) := keep_cell hb1 (keep_alloc (new_cell rfl rfl))
  have b5 : w1.cell? ⟨w.heap.size + 1, 5, none⟩ = some (.string key) := keep_cell hb1 (new_cell (by rw [World.size_alloc]) rfl)
  have a6 : w1.cell? ⟨w.heap.size, 6, none⟩ = some (.bool false) := keep_cell hb1 (keep_alloc (new_cell rfl rfl))
  have b6 : w1.cell? ⟨w.heap.size + 1, 6, none⟩ = some (.bool true) := keep_cell hb1 (new_cell (by rw [World.size_alloc]) rfl)
  have a7 : w1.cell? ⟨w.heap.size, 7, none⟩ = some (.string sb) := keep_cell hb1 (keep_alloc (new_cell rfl rfl))
  have b7 : w1.cell? ⟨w.heap.size + 1, 7, none⟩ = some (.string sb2) := keep_cell hb1 (new_cell (by rw [World.size_alloc]) rfl)
  have a8 : w1.cell? ⟨w.heap.size, 8, none⟩ = some (.bool ha) := keep_cell hb1 (keep_alloc (new_cell rfl rfl))
  have b8 : w1.cell? ⟨w.heap.size + 1, 8, none⟩ = some (.bool ha2) := keep_cell hb1 (new_cell (by rw [World.size_alloc]) rfl)
  have a9 : w1.cell? ⟨w.heap.size, 9, none⟩ = some (.string sa) := keep_cell hb1 (keep_alloc (new_cell rfl rfl))
  have b9 : w1.cell? ⟨w.heap.size + 1, 9, none⟩ = some (.string sa2) := keep_cell hb1 (new_cell (by rw [World.size_alloc]) rfl)
  have a10 : w1.cell? ⟨w.heap.size, 10, none⟩ = some (.int .i64 u) := keep_cell hb1 (keep_alloc (new_cell rfl rfl))
  have b10 : w1.cell? ⟨w.heap.size + 1, 10, none⟩ = some (.int .i64 u2) := keep_cell hb1 (new_cell (by rw [World.size_alloc]) rfl)
  have HB : Hid (Below w.heap.size w w1) := bwh_call hb1 (bwh_alloc (bwh_alloc (Below.refl _ _)))
  clear hb1 G1
  go_wp2_with fail
  refine (G2.out _).mono ?_
  rintro x w2 ⟨rfl, hb2⟩
  replace a0 := keep_cell hb2 a0
  replace b0 := keep_cell hb2 b0
  replace a1 := keep_cell hb2 a1
  replace b1 := keep_cell hb2 b1
  replace a2 := keep_cell hb2 a2
  replace b2 := keep_cell hb2 b2
  replace a3 := keep_cell hb2 a3
  replace b3 := keep_cell hb2 b3
  replace a4 := keep_cell hb2 a4
  replace b4 := keep_cell hb2 b4
  replace a5 := keep_cell hb2 a5
  replace b5 := keep_cell hb2 b5
  replace a6 := keep_cell hb2 a6
  replace b6 := keep_cell hb2 b6
  replace a7 := keep_cell hb2 a7
  replace b7 := keep_cell hb2 b7
  replace a8 := keep_cell hb2 a8
  replace b8 := keep_cell hb2 b8
  replace a9 := keep_cell hb2 a9
  replace b9 := keep_cell hb2 b9
  replace a10 := keep_cell hb2 a10
  replace b10 := keep_cell hb2 b10
  replace HB := bwh_call hb2 HB
  clear hb2 G2
  go_wp2_with fail
  go_region_held3 (fun w' => w'.cell? ⟨w.heap.size, 0, none⟩ = some (.int .i64 k) ∧ w'.cell? ⟨w.heap.size + 1, 0, none⟩ = some (.int .i64 k) ∧ w'.cell? ⟨w.heap.size, 1, none⟩ = some (.int .i64 g) ∧ w'.cell? ⟨w.heap.size + 1, 1, none⟩ = some (.int .i64 g) ∧ w'.cell? ⟨w.heap.size, 2, none⟩ = some (.int .i64 t) ∧ w'.cell? ⟨w.heap.size + 1, 2, none⟩ = some (.int .i64 t) ∧ w'.cell? ⟨w.heap.size, 3, none⟩ = some (.int .i64 p) ∧ w'.cell? ⟨w.heap.size + 1, 3, none⟩ = some (.int .i64 p) ∧ w'.cell? ⟨w.heap.size, 4, none⟩ = some (.int .i64 pg) ∧ w'.cell? ⟨w.heap.size + 1, 4, none⟩ = some (.int .i64 pg) ∧ w'.cell? ⟨w.heap.size, 5, none⟩ = some (.string key) ∧ w'.cell? ⟨w.heap.size + 1, 5, none⟩ = some (.string key) ∧ w'.cell? ⟨w.heap.size, 6, none⟩ = some (.bool false) ∧ w'.cell? ⟨w.heap.size + 1, 6, none⟩ = some (.bool true) ∧ w'.cell? ⟨w.heap.size, 7, none⟩ = some (.string sb) ∧ w'.cell? ⟨w.heap.size + 1, 7, none⟩ = some (.string sb2) ∧ w'.cell? ⟨w.heap.size, 8, none⟩ = some (.bool ha) ∧ w'.cell? ⟨w.heap.size + 1, 8, none⟩ = some (.bool ha2) ∧ w'.cell? ⟨w.heap.size, 9, none⟩ = some (.string sa) ∧ w'.cell? ⟨w.heap.size + 1, 9, none⟩ = some (.string sa2) ∧ w'.cell? ⟨w.heap.size, 10, none⟩ = some (.int .i64 u) ∧ w'.cell? ⟨w.heap.size + 1, 10, none⟩ = some (.int .i64 u2) ∧ Hid (Below w.heap.size w w'))
    ((refine ⟨?_, ?_, ?_, ?_, ?_, ?_, ?_, ?_, ?_, ?_, ?_, ?_, ?_, ?_, ?_, ?_, ?_, ?_, ?_, ?_, ?_, ?_, ?_⟩ <;> (repeat (first | with_reducible assumption | (with_reducible refine new_cell ?_ ?_ <;> first | rfl | (simp; done)) | with_reducible refine keep_alloc ?_ | with_reducible refine keep_drew ?_ | with_reducible refine keep_cell (by assumption) ?_ | with_reducible refine bwh_alloc ?_ | with_reducible refine bwh_drew ?_ | with_reducible refine bwh_call (by assumption) ?_))))
    (first
      | (go_at_call_of 12 (Value.agg #[.int .i64 k, .int .i64 g, .int .i64 t, .int .i64 p, .int .i64 pg, .string key, .bool false, .string sb, .bool ha, .string sa, .int .i64 u]); refine (P1.out _ ?_).mono ?_; (repeat (first | with_reducible assumption | (with_reducible refine new_cell ?_ ?_ <;> first | rfl | (simp; done)) | with_reducible refine keep_alloc ?_ | with_reducible refine keep_drew ?_ | with_reducible refine keep_cell (by assumption) ?_ | with_reducible refine bwh_alloc ?_ | with_reducible refine bwh_drew ?_ | with_reducible refine bwh_call (by assumption) ?_)); rintro x wz ⟨rfl, hbz⟩)
      | (go_at_call_of 12 (Value.agg #[.int .i64 k, .int .i64 g, .int .i64 t, .int .i64 p, .int .i64 pg, .string key, .bool true, .string sb2, .bool ha2, .string sa2, .int .i64 u2]); refine (P2.out _ ?_).mono ?_; (repeat (first | with_reducible assumption | (with_reducible refine new_cell ?_ ?_ <;> first | rfl | (simp; done)) | with_reducible refine keep_alloc ?_ | with_reducible refine keep_drew ?_ | with_reducible refine keep_cell (by assumption) ?_ | with_reducible refine bwh_alloc ?_ | with_reducible refine bwh_drew ?_ | with_reducible refine bwh_call (by assumption) ?_)); rintro x wz ⟨rfl, hbz⟩))
  go_wp2_with fail
  refine (K1.out _).mono ?_
  rintro x w3 ⟨rfl, hb3⟩
  have c0 : w3.cell? ⟨w.heap.size, 0, none⟩ = some (.int .i64 k) := by (repeat (first | with_reducible assumption | (with_reducible refine new_cell ?_ ?_ <;> first | rfl | (simp; done)) | with_reducible refine keep_alloc ?_ | with_reducible refine keep_drew ?_ | with_reducible refine keep_cell (by assumption) ?_ | with_reducible refine bwh_alloc ?_ | with_reducible refine bwh_drew ?_ | with_reducible refine bwh_call (by assumption) ?_))
  have d0 : w3.cell? ⟨w.heap.size + 1, 0, none⟩ = some (.int .i64 k) := by (repeat (first | with_reducible assumption | (with_reducible refine new_cell ?_ ?_ <;> first | rfl | (simp; done)) | with_reducible refine keep_alloc ?_ | with_reducible refine keep_drew ?_ | with_reducible refine keep_cell (by assumption) ?_ | with_reducible refine bwh_alloc ?_ | with_reducible refine bwh_drew ?_ | with_reducible refine bwh_call (by assumption) ?_))
  have c1 : w3.cell? ⟨w.heap.size, 1, none⟩ = some (.int .i64 g) := by (repeat (first | with_reducible assumption | (with_reducible refine new_cell ?_ ?_ <;> first | rfl | (simp; done)) | with_reducible refine keep_alloc ?_ | with_reducible refine keep_drew ?_ | with_reducible refine keep_cell (by assumption) ?_ | with_reducible refine bwh_alloc ?_ | with_reducible refine bwh_drew ?_ | with_reducible refine bwh_call (by assumption) ?_))
  have d1 : w3.cell? ⟨w.heap.size + 1, 1, none⟩ = some (.int .i64 g) := by (repeat (first | with_reducible assumption | (with_reducible refine new_cell ?_ ?_ <;> first | rfl | (simp; done)) | with_reducible refine keep_alloc ?_ | with_reducible refine keep_drew ?_ | with_reducible refine keep_cell (by assumption) ?_ | with_reducible refine bwh_alloc ?_ | with_reducible refine bwh_drew ?_ | with_reducible refine bwh_call (by assumption) ?_))
  have c2 : w3.cell? ⟨w.heap.size, 2, none⟩ = some (.int .i64 t) := by (repeat (first | with_reducible assumption | (with_reducible refine new_cell ?_ ?_ <;> first | rfl | (simp; done)) | with_reducible refine keep_alloc ?_ | with_reducible refine keep_drew ?_ | with_reducible refine keep_cell (by assumption) ?_ | with_reducible refine bwh_alloc ?_ | with_reducible refine bwh_drew ?_ | with_reducible refine bwh_call (by assumption) ?_))
  have d2 : w3.cell? ⟨w.heap.size + 1, 2, none⟩ = some (.int .i64 t) := by (repeat (first | with_reducible assumption | (with_reducible refine new_cell ?_ ?_ <;> first | rfl | (simp; done)) | with_reducible refine keep_alloc ?_ | with_reducible refine keep_drew ?_ | with_reducible refine keep_cell (by assumption) ?_ | with_reducible refine bwh_alloc ?_ | with_reducible refine bwh_drew ?_ | with_reducible refine bwh_call (by assumption) ?_))
  have c3 : w3.cell? ⟨w.heap.size, 3, none⟩ = some (.int .i64 p) := by (repeat (first | with_reducible assumption | (with_reducible refine new_cell ?_ ?_ <;> first | rfl | (simp; done)) | with_reducible refine keep_alloc ?_ | with_reducible refine keep_drew ?_ | with_reducible refine keep_cell (by assumption) ?_ | with_reducible refine bwh_alloc ?_ | with_reducible refine bwh_drew ?_ | with_reducible refine bwh_call (by assumption) ?_))
  have d3 : w3.cell? ⟨w.heap.size + 1, 3, none⟩ = some (.int .i64 p) := by (repeat (first | with_reducible assumption | (with_reducible refine new_cell ?_ ?_ <;> first | rfl | (simp; done)) | with_reducible refine keep_alloc ?_ | with_reducible refine keep_drew ?_ | with_reducible refine keep_cell (by assumption) ?_ | with_reducible refine bwh_alloc ?_ | with_reducible refine bwh_drew ?_ | with_reducible refine bwh_call (by assumption) ?_))
  have c4 : w3.cell? ⟨w.heap.size, 4, none⟩ = some (.int .i64 pg) := by (repeat (first | with_reducible assumption | (with_reducible refine new_cell ?_ ?_ <;> first | rfl | (simp; done)) | with_reducible refine keep_alloc ?_ | with_reducible refine keep_drew ?_ | with_reducible refine keep_cell (by assumption) ?_ | with_reducible refine bwh_alloc ?_ | with_reducible refine bwh_drew ?_ | with_reducible refine bwh_call (by assumption) ?_))
  have d4 : w3.cell? ⟨w.heap.size + 1, 4, none⟩ = some (.int .i64 pg) := by (repeat (first | with_reducible assumption | (with_reducible refine new_cell ?_ ?_ <;> first | rfl | (simp; done)) | with_reducible refine keep_alloc ?_ | with_reducible refine keep_drew ?_ | with_reducible refine keep_cell (by assumption) ?_ | with_reducible refine bwh_alloc ?_ | with_reducible refine bwh_drew ?_ | with_reducible refine bwh_call (by assumption) ?_))
  have c5 : w3.cell? ⟨w.heap.size, 5, none⟩ = some (.string key) := by (repeat (first | with_reducible assumption | (with_reducible refine new_cell ?_ ?_ <;> first | rfl | (simp; done)) | with_reducible refine keep_alloc ?_ | with_reducible refine keep_drew ?_ | with_reducible refine keep_cell (by assumption) ?_ | with_reducible refine bwh_alloc ?_ | with_reducible refine bwh_drew ?_ | with_reducible refine bwh_call (by assumption) ?_))
  have d5 : w3.cell? ⟨w.heap.size + 1, 5, none⟩ = some (.string key) := by (repeat (first | with_reducible assumption | (with_reducible refine new_cell ?_ ?_ <;> first | rfl | (simp; done)) | with_reducible refine keep_alloc ?_ | with_reducible refine keep_drew ?_ | with_reducible refine keep_cell (by assumption) ?_ | with_reducible refine bwh_alloc ?_ | with_reducible refine bwh_drew ?_ | with_reducible refine bwh_call (by assumption) ?_))
  have c6 : w3.cell? ⟨w.heap.size, 6, none⟩ = some (.bool false) := by (repeat (first | with_reducible assumption | (with_reducible refine new_cell ?_ ?_ <;> first | rfl | (simp; done)) | with_reducible refine keep_alloc ?_ | with_reducible refine keep_drew ?_ | with_reducible refine keep_cell (by assumption) ?_ | with_reducible refine bwh_alloc ?_ | with_reducible refine bwh_drew ?_ | with_reducible refine bwh_call (by assumption) ?_))
  have d6 : w3.cell? ⟨w.heap.size + 1, 6, none⟩ = some (.bool true) := by (repeat (first | with_reducible assumption | (with_reducible refine new_cell ?_ ?_ <;> first | rfl | (simp; done)) | with_reducible refine keep_alloc ?_ | with_reducible refine keep_drew ?_ | with_reducible refine keep_cell (by assumption) ?_ | with_reducible refine bwh_alloc ?_ | with_reducible refine bwh_drew ?_ | with_reducible refine bwh_call (by assumption) ?_))
  have c7 : w3.cell? ⟨w.heap.size, 7, none⟩ = some (.string sb) := by (repeat (first | with_reducible assumption | (with_reducible refine new_cell ?_ ?_ <;> first | rfl | (simp; done)) | with_reducible refine keep_alloc ?_ | with_reducible refine keep_drew ?_ | with_reducible refine keep_cell (by assumption) ?_ | with_reducible refine bwh_alloc ?_ | with_reducible refine bwh_drew ?_ | with_reducible refine bwh_call (by assumption) ?_))
  have d7 : w3.cell? ⟨w.heap.size + 1, 7, none⟩ = some (.string sb2) := by (repeat (first | with_reducible assumption | (with_reducible refine new_cell ?_ ?_ <;> first | rfl | (simp; done)) | with_reducible refine keep_alloc ?_ | with_reducible refine keep_drew ?_ | with_reducible refine keep_cell (by assumption) ?_ | with_reducible refine bwh_alloc ?_ | with_reducible refine bwh_drew ?_ | with_reducible refine bwh_call (by assumption) ?_))
  have c8 : w3.cell? ⟨w.heap.size, 8, none⟩ = some (.bool ha) := by (repeat (first | with_reducible assumption | (with_reducible refine new_cell ?_ ?_ <;> first | rfl | (simp; done)) | with_reducible refine keep_alloc ?_ | with_reducible refine keep_drew ?_ | with_reducible refine keep_cell (by assumption) ?_ | with_reducible refine bwh_alloc ?_ | with_reducible refine bwh_drew ?_ | with_reducible refine bwh_call (by assumption) ?_))
  have d8 : w3.cell? ⟨w.heap.size + 1, 8, none⟩ = some (.bool ha2) := by (repeat (first | with_reducible assumption | (with_reducible refine new_cell ?_ ?_ <;> first | rfl | (simp; done)) | with_reducible refine keep_alloc ?_ | with_reducible refine keep_drew ?_ | with_reducible refine keep_cell (by assumption) ?_ | with_reducible refine bwh_alloc ?_ | with_reducible refine bwh_drew ?_ | with_reducible refine bwh_call (by assumption) ?_))
  have c9 : w3.cell? ⟨w.heap.size, 9, none⟩ = some (.string sa) := by (repeat (first | with_reducible assumption | (with_reducible refine new_cell ?_ ?_ <;> first | rfl | (simp; done)) | with_reducible refine keep_alloc ?_ | with_reducible refine keep_drew ?_ | with_reducible refine keep_cell (by assumption) ?_ | with_reducible refine bwh_alloc ?_ | with_reducible refine bwh_drew ?_ | with_reducible refine bwh_call (by assumption) ?_))
  have d9 : w3.cell? ⟨w.heap.size + 1, 9, none⟩ = some (.string sa2) := by (repeat (first | with_reducible assumption | (with_reducible refine new_cell ?_ ?_ <;> first | rfl | (simp; done)) | with_reducible refine keep_alloc ?_ | with_reducible refine keep_drew ?_ | with_reducible refine keep_cell (by assumption) ?_ | with_reducible refine bwh_alloc ?_ | with_reducible refine bwh_drew ?_ | with_reducible refine bwh_call (by assumption) ?_))
  have c10 : w3.cell? ⟨w.heap.size, 10, none⟩ = some (.int .i64 u) := by (repeat (first | with_reducible assumption | (with_reducible refine new_cell ?_ ?_ <;> first | rfl | (simp; done)) | with_reducible refine keep_alloc ?_ | with_reducible refine keep_drew ?_ | with_reducible refine keep_cell (by assumption) ?_ | with_reducible refine bwh_alloc ?_ | with_reducible refine bwh_drew ?_ | with_reducible refine bwh_call (by assumption) ?_))
  have d10 : w3.cell? ⟨w.heap.size + 1, 10, none⟩ = some (.int .i64 u2) := by (repeat (first | with_reducible assumption | (with_reducible refine new_cell ?_ ?_ <;> first | rfl | (simp; done)) | with_reducible refine keep_alloc ?_ | with_reducible refine keep_drew ?_ | with_reducible refine keep_cell (by assumption) ?_ | with_reducible refine bwh_alloc ?_ | with_reducible refine bwh_drew ?_ | with_reducible refine bwh_call (by assumption) ?_))
  have HB2 : Hid (Below w.heap.size w w3) := by (repeat (first | with_reducible assumption | (with_reducible refine new_cell ?_ ?_ <;> first | rfl | (simp; done)) | with_reducible refine keep_alloc ?_ | with_reducible refine keep_drew ?_ | with_reducible refine keep_cell (by assumption) ?_ | with_reducible refine bwh_alloc ?_ | with_reducible refine bwh_drew ?_ | with_reducible refine bwh_call (by assumption) ?_))
  clear hb3 K1 HB a0 b0 a1 b1 a2 b2 a3 b3 a4 b4 a5 b5 a6 b6 a7 b7 a8 b8 a9 b9 a10 b10
  go_wp2_with fail
  refine (KR.out _).mono ?_
  rintro x w4 ⟨rfl, hb4⟩
  replace c0 := keep_cell hb4 c0
  replace d0 := keep_cell hb4 d0
  replace c1 := keep_cell hb4 c1
  replace d1 := keep_cell hb4 d1
  replace c2 := keep_cell hb4 c2
  replace d2 := keep_cell hb4 d2
  replace c3 := keep_cell hb4 c3
  replace d3 := keep_cell hb4 d3
  replace c4 := keep_cell hb4 c4
  replace d4 := keep_cell hb4 d4
  replace c5 := keep_cell hb4 c5
  replace d5 := keep_cell hb4 d5
  replace c6 := keep_cell hb4 c6
  replace d6 := keep_cell hb4 d6
  replace c7 := keep_cell hb4 c7
  replace d7 := keep_cell hb4 d7
  replace c8 := keep_cell hb4 c8
  replace d8 := keep_cell hb4 d8
  replace c9 := keep_cell hb4 c9
  replace d9 := keep_cell hb4 d9
  replace c10 := keep_cell hb4 c10
  replace d10 := keep_cell hb4 d10
  replace HB2 := bwh_call hb4 HB2
  clear hb4 KR
  go_wp2_with fail
  refine (KA.out _ HB2).mono ?_
  rintro x w5 ⟨rfl, hb5⟩
  have hbe := bw_call hb5 HB2.out
  go_wp2
  go_ret
  exact ⟨rfl, hbe⟩

set_option maxRecDepth 100000 in
set_option maxHeartbeats 4000000 in
theorem prints_d7 (k : Int) (g : Int) (t : Int) (p : Int) (pg : Int) (key : ByteArray) (hb : Bool) (sb : ByteArray) (ha : Bool) (sa : ByteArray) (u : Int) (sb2 : ByteArray) (ha2 : Bool) (sa2 : ByteArray) (u2 : Int) (PA PB : ByteArray) (w : World)
    (KA : Hid (∀ W, Hid (Below w.heap.size w W) → Calls Tryd.prog 6 #[] W fun e w' => e = .returned (.bool true) ∧ Below W.heap.size W w'))
    (G1 : Hid (∀ W, Calls Tryd.prog 5 #[.agg #[.int .i64 k, .int .i64 g, .int .i64 t, .int .i64 p, .int .i64 pg, .string key, .bool hb, .string sb, .bool ha, .string sa, .int .i64 u]] W fun e w' => e = .returned (.bool false) ∧ Below W.heap.size W w'))
    (G2 : Hid (∀ W, Calls Tryd.prog 5 #[.agg #[.int .i64 k, .int .i64 g, .int .i64 t, .int .i64 p, .int .i64 pg, .string key, .bool hb, .string sb2, .bool ha2, .string sa2, .int .i64 u2]] W fun e w' => e = .returned (.bool false) ∧ Below W.heap.size W w'))
    (P1 : Hid (∀ W, Hid (Below w.heap.size w W) → Calls Tryd.prog 12 #[.agg #[.int .i64 k, .int .i64 g, .int .i64 t, .int .i64 p, .int .i64 pg, .string key, .bool hb, .string sb, .bool ha, .string sa, .int .i64 u]] W fun e w' => e = .returned (.string PA) ∧ Below W.heap.size W w'))
    (P2 : Hid (∀ W, Hid (Below w.heap.size w W) → Calls Tryd.prog 12 #[.agg #[.int .i64 k, .int .i64 g, .int .i64 t, .int .i64 p, .int .i64 pg, .string key, .bool hb, .string sb2, .bool ha2, .string sa2, .int .i64 u2]] W fun e w' => e = .returned (.string PB) ∧ Below W.heap.size W w'))
    (K1 : Hid (∀ W, Calls Tryd.prog 10 #[.agg #[.int .i64 k, .int .i64 g, .int .i64 t, .int .i64 p, .int .i64 pg, .string key, .bool hb, .string sb, .bool ha, .string sa, .int .i64 u]] W fun e w' => e = .returned (.bool true) ∧ Below W.heap.size W w'))
    (KR : Hid (∀ W, Calls Tryd.prog 13 #[.agg #[.int .i64 k, .int .i64 g, .int .i64 t, .int .i64 p, .int .i64 pg, .string key, .bool hb, .string sb, .bool ha, .string sa, .int .i64 u]] W fun e w' => e = .returned (.string PA) ∧ Below W.heap.size W w'))
    (f0 : PA.toList ≠ []) (f1 : PA.toList.isEmpty = false) (f2 : PB.toList ≠ []) (f3 : PB.toList.isEmpty = false) (f4 : (PA.toList == PB.toList) = false) (f5 : (sb.toList == sb2.toList) = false) :
    Calls Tryd.prog 4 #[.agg #[.int .i64 k, .int .i64 g, .int .i64 t, .int .i64 p, .int .i64 pg, .string key, .bool hb, .string sb, .bool ha, .string sa, .int .i64 u], .agg #[.int .i64 k, .int .i64 g, .int .i64 t, .int .i64 p, .int .i64 pg, .string key, .bool hb, .string sb2, .bool ha2, .string sa2, .int .i64 u2]] w fun e w' => e = .returned (.bool true) ∧ Below w.heap.size w w' := by
  go_enter Tryd.func4, Tryd.ntmps4
  go_wp2_with fail
  refine (G1.out _).mono ?_
  rintro x w1 ⟨rfl, hb1⟩
  have a0 : w1.cell? ⟨w.heap.size, 0, none⟩ = some (.int .i64 k) := keep_cell hb1 (keep_alloc (new_cell rfl rfl))
  have b0 : w1.cell? ⟨w.heap.size + 1, 0, none⟩ = some (.int .i64 k) := keep_cell hb1 (new_cell (by rw [World.size_alloc]) rfl)
  have a1 : w1.cell? ⟨w.heap.size, 1, none⟩ = some (.int .i64 g) := keep_cell hb1 (keep_alloc (new_cell rfl rfl))
  have b1 : w1.cell? ⟨w.heap.size + 1, 1, none⟩ = some (.int .i64 g) := keep_cell hb1 (new_cell (by rw [World.size_alloc]) rfl)
  have a2 : w1.cell? ⟨w.heap.size, 2, none⟩ = some (.int .i64 t) := keep_cell hb1 (keep_alloc (new_cell rfl rfl))
  have b2 : w1.cell? ⟨w.heap.size + 1, 2, none⟩ = some (.int .i64 t) := keep_cell hb1 (new_cell (by rw [World.size_alloc]) rfl)
  have a3 : w1.cell? ⟨w.heap.size, 3, none⟩ = some (.int .i64 p) := keep_cell hb1 (keep_alloc (new_cell rfl rfl))
  have b3 : w1.cell? ⟨w.heap.size + 1, 3, none⟩ = some (.int .i64 p) := keep_cell hb1 (new_cell (by rw [World.size_alloc]) rfl)
  have a4 : w1.cell? ⟨w.heap.size, 4, none⟩ = some (.int .i64 pg) := keep_cell hb1 (keep_alloc (new_cell rfl rfl))
  have b4 : w1.cell? ⟨w.heap.size + 1, 4, none⟩ = some (.int .i64 pg) := keep_cell hb1 (new_cell (by rw [World.size_alloc]) rfl)
  have a5 : w1.cell? ⟨w.heap.size, 5, none⟩ = some (.string key) := keep_cell hb1 (keep_alloc (new_cell rfl rfl))
  have b5 : w1.cell? ⟨w.heap.size + 1, 5, none⟩ = some (.string key) := keep_cell hb1 (new_cell (by rw [World.size_alloc]) rfl)
  have a6 : w1.cell? ⟨w.heap.size, 6, none⟩ = some (.bool hb) := keep_cell hb1 (keep_alloc (new_cell rfl rfl))
  have b6 : w1.cell? ⟨w.heap.size + 1, 6, none⟩ = some (.bool hb) := keep_cell hb1 (new_cell (by rw [World.size_alloc]) rfl)
  have a7 : w1.cell? ⟨w.heap.size, 7, none⟩ = some (.string sb) := keep_cell hb1 (keep_alloc (new_cell rfl rfl))
  have b7 : w1.cell? ⟨w.heap.size + 1, 7, none⟩ = some (.string sb2) := keep_cell hb1 (new_cell (by rw [World.size_alloc]) rfl)
  have a8 : w1.cell? ⟨w.heap.size, 8, none⟩ = some (.bool ha) := keep_cell hb1 (keep_alloc (new_cell rfl rfl))
  have b8 : w1.cell? ⟨w.heap.size + 1, 8, none⟩ = some (.bool ha2) := keep_cell hb1 (new_cell (by rw [World.size_alloc]) rfl)
  have a9 : w1.cell? ⟨w.heap.size, 9, none⟩ = some (.string sa) := keep_cell hb1 (keep_alloc (new_cell rfl rfl))
  have b9 : w1.cell? ⟨w.heap.size + 1, 9, none⟩ = some (.string sa2) := keep_cell hb1 (new_cell (by rw [World.size_alloc]) rfl)
  have a10 : w1.cell? ⟨w.heap.size, 10, none⟩ = some (.int .i64 u) := keep_cell hb1 (keep_alloc (new_cell rfl rfl))
  have b10 : w1.cell? ⟨w.heap.size + 1, 10, none⟩ = some (.int .i64 u2) := keep_cell hb1 (new_cell (by rw [World.size_alloc]) rfl)
  have HB : Hid (Below w.heap.size w w1) := bwh_call hb1 (bwh_alloc (bwh_alloc (Below.refl _ _)))
  clear hb1 G1
  go_wp2_with fail
  refine (G2.out _).mono ?_
  rintro x w2 ⟨rfl, hb2⟩
  replace a0 := keep_cell hb2 a0
  replace b0 := keep_cell hb2 b0
  replace a1 := keep_cell hb2 a1
  replace b1 := keep_cell hb2 b1
  replace a2 := keep_cell hb2 a2
  replace b2 := keep_cell hb2 b2
  replace a3 := keep_cell hb2 a3
  replace b3 := keep_cell hb2 b3
  replace a4 := keep_cell hb2 a4
  replace b4 := keep_cell hb2 b4
  replace a5 := keep_cell hb2 a5
  replace b5 := keep_cell hb2 b5
  replace a6 := keep_cell hb2 a6
  replace b6 := keep_cell hb2 b6
  replace a7 := keep_cell hb2 a7
  replace b7 := keep_cell hb2 b7
  replace a8 := keep_cell hb2 a8
  replace b8 := keep_cell hb2 b8
  replace a9 := keep_cell hb2 a9
  replace b9 := keep_cell hb2 b9
  replace a10 := keep_cell hb2 a10
  replace b10 := keep_cell hb2 b10
  replace HB := bwh_call hb2 HB
  clear hb2 G2
  go_wp2_with fail
  go_region_held3 (fun w' => w'.cell? ⟨w.heap.size, 0, none⟩ = some (.int .i64 k) ∧ w'.cell? ⟨w.heap.size + 1, 0, none⟩ = some (.int .i64 k) ∧ w'.cell? ⟨w.heap.size, 1, none⟩ = some (.int .i64 g) ∧ w'.cell? ⟨w.heap.size + 1, 1, none⟩ = some (.int .i64 g) ∧ w'.cell? ⟨w.heap.size, 2, none⟩ = some (.int .i64 t) ∧ w'.cell? ⟨w.heap.size + 1, 2, none⟩ = some (.int .i64 t) ∧ w'.cell? ⟨w.heap.size, 3, none⟩ = some (.int .i64 p) ∧ w'.cell? ⟨w.heap.size + 1, 3, none⟩ = some (.int .i64 p) ∧ w'.cell? ⟨w.heap.size, 4, none⟩ = some (.int .i64 pg) ∧ w'.cell? ⟨w.heap.size + 1, 4, none⟩ = some (.int .i64 pg) ∧ w'.cell? ⟨w.heap.size, 5, none⟩ = some (.string key) ∧ w'.cell? ⟨w.heap.size + 1, 5, none⟩ = some (.string key) ∧ w'.cell? ⟨w.heap.size, 6, none⟩ = some (.bool hb) ∧ w'.cell? ⟨w.heap.size + 1, 6, none⟩ = some (.bool hb) ∧ w'.cell? ⟨w.heap.size, 7, none⟩ = some (.string sb) ∧ w'.cell? ⟨w.heap.size + 1, 7, none⟩ = some (.string sb2) ∧ w'.cell? ⟨w.heap.size, 8, none⟩ = some (.bool ha) ∧ w'.cell? ⟨w.heap.size + 1, 8, none⟩ = some (.bool ha2) ∧ w'.cell? ⟨w.heap.size, 9, none⟩ = some (.string sa) ∧ w'.cell? ⟨w.heap.size + 1, 9, none⟩ = some (.string sa2) ∧ w'.cell? ⟨w.heap.size, 10, none⟩ = some (.int .i64 u) ∧ w'.cell? ⟨w.heap.size + 1, 10, none⟩ = some (.int .i64 u2) ∧ Hid (Below w.heap.size w w'))
    ((refine ⟨?_, ?_, ?_, ?_, ?_, ?_, ?_, ?_, ?_, ?_, ?_, ?_, ?_, ?_, ?_, ?_, ?_, ?_, ?_, ?_, ?_, ?_, ?_⟩ <;> (repeat (first | with_reducible assumption | (with_reducible refine new_cell ?_ ?_ <;> first | rfl | (simp; done)) | with_reducible refine keep_alloc ?_ | with_reducible refine keep_drew ?_ | with_reducible refine keep_cell (by assumption) ?_ | with_reducible refine bwh_alloc ?_ | with_reducible refine bwh_drew ?_ | with_reducible refine bwh_call (by assumption) ?_))))
    (first
      | (go_at_call_of 12 (Value.agg #[.int .i64 k, .int .i64 g, .int .i64 t, .int .i64 p, .int .i64 pg, .string key, .bool hb, .string sb, .bool ha, .string sa, .int .i64 u]); refine (P1.out _ ?_).mono ?_; (repeat (first | with_reducible assumption | (with_reducible refine new_cell ?_ ?_ <;> first | rfl | (simp; done)) | with_reducible refine keep_alloc ?_ | with_reducible refine keep_drew ?_ | with_reducible refine keep_cell (by assumption) ?_ | with_reducible refine bwh_alloc ?_ | with_reducible refine bwh_drew ?_ | with_reducible refine bwh_call (by assumption) ?_)); rintro x wz ⟨rfl, hbz⟩)
      | (go_at_call_of 12 (Value.agg #[.int .i64 k, .int .i64 g, .int .i64 t, .int .i64 p, .int .i64 pg, .string key, .bool hb, .string sb2, .bool ha2, .string sa2, .int .i64 u2]); refine (P2.out _ ?_).mono ?_; (repeat (first | with_reducible assumption | (with_reducible refine new_cell ?_ ?_ <;> first | rfl | (simp; done)) | with_reducible refine keep_alloc ?_ | with_reducible refine keep_drew ?_ | with_reducible refine keep_cell (by assumption) ?_ | with_reducible refine bwh_alloc ?_ | with_reducible refine bwh_drew ?_ | with_reducible refine bwh_call (by assumption) ?_)); rintro x wz ⟨rfl, hbz⟩))
  go_wp2_with fail
  refine (K1.out _).mono ?_
  rintro x w3 ⟨rfl, hb3⟩
  have c0 : w3.cell? ⟨w.heap.size, 0, none⟩ = some (.int .i64 k) := by (repeat (first | with_reducible assumption | (with_reducible refine new_cell ?_ ?_ <;> first | rfl | (simp; done)) | with_reducible refine keep_alloc ?_ | with_reducible refine keep_drew ?_ | with_reducible refine keep_cell (by assumption) ?_ | with_reducible refine bwh_alloc ?_ | with_reducible refine bwh_drew ?_ | with_reducible refine bwh_call (by assumption) ?_))
  have d0 : w3.cell? ⟨w.heap.size + 1, 0, none⟩ = some (.int .i64 k) := by (repeat (first | with_reducible assumption | (with_reducible refine new_cell ?_ ?_ <;> first | rfl | (simp; done)) | with_reducible refine keep_alloc ?_ | with_reducible refine keep_drew ?_ | with_reducible refine keep_cell (by assumption) ?_ | with_reducible refine bwh_alloc ?_ | with_reducible refine bwh_drew ?_ | with_reducible refine bwh_call (by assumption) ?_))
  have c1 : w3.cell? ⟨w.heap.size, 1, none⟩ = some (.int .i64 g) := by (repeat (first | with_reducible assumption | (with_reducible refine new_cell ?_ ?_ <;> first | rfl | (simp; done)) | with_reducible refine keep_alloc ?_ | with_reducible refine keep_drew ?_ | with_reducible refine keep_cell (by assumption) ?_ | with_reducible refine bwh_alloc ?_ | with_reducible refine bwh_drew ?_ | with_reducible refine bwh_call (by assumption) ?_))
  have d1 : w3.cell? ⟨w.heap.size + 1, 1, none⟩ = some (.int .i64 g) := by (repeat (first | with_reducible assumption | (with_reducible refine new_cell ?_ ?_ <;> first | rfl | (simp; done)) | with_reducible refine keep_alloc ?_ | with_reducible refine keep_drew ?_ | with_reducible refine keep_cell (by assumption) ?_ | with_reducible refine bwh_alloc ?_ | with_reducible refine bwh_drew ?_ | with_reducible refine bwh_call (by assumption) ?_))
  have c2 : w3.cell? ⟨w.heap.size, 2, none⟩ = some (.int .i64 t) := by (repeat (first | with_reducible assumption | (with_reducible refine new_cell ?_ ?_ <;> first | rfl | (simp; done)) | with_reducible refine keep_alloc ?_ | with_reducible refine keep_drew ?_ | with_reducible refine keep_cell (by assumption) ?_ | with_reducible refine bwh_alloc ?_ | with_reducible refine bwh_drew ?_ | with_reducible refine bwh_call (by assumption) ?_))
  have d2 : w3.cell? ⟨w.heap.size + 1, 2, none⟩ = some (.int .i64 t) := by (repeat (first | with_reducible assumption | (with_reducible refine new_cell ?_ ?_ <;> first | rfl | (simp; done)) | with_reducible refine keep_alloc ?_ | with_reducible refine keep_drew ?_ | with_reducible refine keep_cell (by assumption) ?_ | with_reducible refine bwh_alloc ?_ | with_reducible refine bwh_drew ?_ | with_reducible refine bwh_call (by assumption) ?_))
  have c3 : w3.cell? ⟨w.heap.size, 3, none⟩ = some (.int .i64 p) := by (repeat (first | with_reducible assumption | (with_reducible refine new_cell ?_ ?_ <;> first | rfl | (simp; done)) | with_reducible refine keep_alloc ?_ | with_reducible refine keep_drew ?_ | with_reducible refine keep_cell (by assumption) ?_ | with_reducible refine bwh_alloc ?_ | with_reducible refine bwh_drew ?_ | with_reducible refine bwh_call (by assumption) ?_))
  have d3 : w3.cell? ⟨w.heap.size + 1, 3, none⟩ = some (.int .i64 p) := by (repeat (first | with_reducible assumption | (with_reducible refine new_cell ?_ ?_ <;> first | rfl | (simp; done)) | with_reducible refine keep_alloc ?_ | with_reducible refine keep_drew ?_ | with_reducible refine keep_cell (by assumption) ?_ | with_reducible refine bwh_alloc ?_ | with_reducible refine bwh_drew ?_ | with_reducible refine bwh_call (by assumption) ?_))
  have c4 : w3.cell? ⟨w.heap.size, 4, none⟩ = some (.int .i64 pg) := by (repeat (first | with_reducible assumption | (with_reducible refine new_cell ?_ ?_ <;> first | rfl | (simp; done)) | with_reducible refine keep_alloc ?_ | with_reducible refine keep_drew ?_ | with_reducible refine keep_cell (by assumption) ?_ | with_reducible refine bwh_alloc ?_ | with_reducible refine bwh_drew ?_ | with_reducible refine bwh_call (by assumption) ?_))
  have d4 : w3.cell? ⟨w.heap.size + 1, 4, none⟩ = some (.int .i64 pg) := by (repeat (first | with_reducible assumption | (with_reducible refine new_cell ?_ ?_ <;> first | rfl | (simp; done)) | with_reducible refine keep_alloc ?_ | with_reducible refine keep_drew ?_ | with_reducible refine keep_cell (by assumption) ?_ | with_reducible refine bwh_alloc ?_ | with_reducible refine bwh_drew ?_ | with_reducible refine bwh_call (by assumption) ?_))
  have c5 : w3.cell? ⟨w.heap.size, 5, none⟩ = some (.string key) := by (repeat (first | with_reducible assumption | (with_reducible refine new_cell ?_ ?_ <;> first | rfl | (simp; done)) | with_reducible refine keep_alloc ?_ | with_reducible refine keep_drew ?_ | with_reducible refine keep_cell (by assumption) ?_ | with_reducible refine bwh_alloc ?_ | with_reducible refine bwh_drew ?_ | with_reducible refine bwh_call (by assumption) ?_))
  have d5 : w3.cell? ⟨w.heap.size + 1, 5, none⟩ = some (.string key) := by (repeat (first | with_reducible assumption | (with_reducible refine new_cell ?_ ?_ <;> first | rfl | (simp; done)) | with_reducible refine keep_alloc ?_ | with_reducible refine keep_drew ?_ | with_reducible refine keep_cell (by assumption) ?_ | with_reducible refine bwh_alloc ?_ | with_reducible refine bwh_drew ?_ | with_reducible refine bwh_call (by assumption) ?_))
  have c6 : w3.cell? ⟨w.heap.size, 6, none⟩ = some (.bool hb) := by (repeat (first | with_reducible assumption | (with_reducible refine new_cell ?_ ?_ <;> first | rfl | (simp; done)) | with_reducible refine keep_alloc ?_ | with_reducible refine keep_drew ?_ | with_reducible refine keep_cell (by assumption) ?_ | with_reducible refine bwh_alloc ?_ | with_reducible refine bwh_drew ?_ | with_reducible refine bwh_call (by assumption) ?_))
  have d6 : w3.cell? ⟨w.heap.size + 1, 6, none⟩ = some (.bool hb) := by (repeat (first | with_reducible assumption | (with_reducible refine new_cell ?_ ?_ <;> first | rfl | (simp; done)) | with_reducible refine keep_alloc ?_ | with_reducible refine keep_drew ?_ | with_reducible refine keep_cell (by assumption) ?_ | with_reducible refine bwh_alloc ?_ | with_reducible refine bwh_drew ?_ | with_reducible refine bwh_call (by assumption) ?_))
  have c7 : w3.cell? ⟨w.heap.size, 7, none⟩ = some (.string sb) := by (repeat (first | with_reducible assumption | (with_reducible refine new_cell ?_ ?_ <;> first | rfl | (simp; done)) | with_reducible refine keep_alloc ?_ | with_reducible refine keep_drew ?_ | with_reducible refine keep_cell (by assumption) ?_ | with_reducible refine bwh_alloc ?_ | with_reducible refine bwh_drew ?_ | with_reducible refine bwh_call (by assumption) ?_))
  have d7 : w3.cell? ⟨w.heap.size + 1, 7, none⟩ = some (.string sb2) := by (repeat (first | with_reducible assumption | (with_reducible refine new_cell ?_ ?_ <;> first | rfl | (simp; done)) | with_reducible refine keep_alloc ?_ | with_reducible refine keep_drew ?_ | with_reducible refine keep_cell (by assumption) ?_ | with_reducible refine bwh_alloc ?_ | with_reducible refine bwh_drew ?_ | with_reducible refine bwh_call (by assumption) ?_))
  have c8 : w3.cell? ⟨w.heap.size, 8, none⟩ = some (.bool ha) := by (repeat (first | with_reducible assumption | (with_reducible refine new_cell ?_ ?_ <;> first | rfl | (simp; done)) | with_reducible refine keep_alloc ?_ | with_reducible refine keep_drew ?_ | with_reducible refine keep_cell (by assumption) ?_ | with_reducible refine bwh_alloc ?_ | with_reducible refine bwh_drew ?_ | with_reducible refine bwh_call (by assumption) ?_))
  have d8 : w3.cell? ⟨w.heap.size + 1, 8, none⟩ = some (.bool ha2) := by (repeat (first | with_reducible assumption | (with_reducible refine new_cell ?_ ?_ <;> first | rfl | (simp; done)) | with_reducible refine keep_alloc ?_ | with_reducible refine keep_drew ?_ | with_reducible refine keep_cell (by assumption) ?_ | with_reducible refine bwh_alloc ?_ | with_reducible refine bwh_drew ?_ | with_reducible refine bwh_call (by assumption) ?_))
  have c9 : w3.cell? ⟨w.heap.size, 9, none⟩ = some (.string sa) := by (repeat (first | with_reducible assumption | (with_reducible refine new_cell ?_ ?_ <;> first | rfl | (simp; done)) | with_reducible refine keep_alloc ?_ | with_reducible refine keep_drew ?_ | with_reducible refine keep_cell (by assumption) ?_ | with_reducible refine bwh_alloc ?_ | with_reducible refine bwh_drew ?_ | with_reducible refine bwh_call (by assumption) ?_))
  have d9 : w3.cell? ⟨w.heap.size + 1, 9, none⟩ = some (.string sa2) := by (repeat (first | with_reducible assumption | (with_reducible refine new_cell ?_ ?_ <;> first | rfl | (simp; done)) | with_reducible refine keep_alloc ?_ | with_reducible refine keep_drew ?_ | with_reducible refine keep_cell (by assumption) ?_ | with_reducible refine bwh_alloc ?_ | with_reducible refine bwh_drew ?_ | with_reducible refine bwh_call (by assumption) ?_))
  have c10 : w3.cell? ⟨w.heap.size, 10, none⟩ = some (.int .i64 u) := by (repeat (first | with_reducible assumption | (with_reducible refine new_cell ?_ ?_ <;> first | rfl | (simp; done)) | with_reducible refine keep_alloc ?_ | with_reducible refine keep_drew ?_ | with_reducible refine keep_cell (by assumption) ?_ | with_reducible refine bwh_alloc ?_ | with_reducible refine bwh_drew ?_ | with_reducible refine bwh_call (by assumption) ?_))
  have d10 : w3.cell? ⟨w.heap.size + 1, 10, none⟩ = some (.int .i64 u2) := by (repeat (first | with_reducible assumption | (with_reducible refine new_cell ?_ ?_ <;> first | rfl | (simp; done)) | with_reducible refine keep_alloc ?_ | with_reducible refine keep_drew ?_ | with_reducible refine keep_cell (by assumption) ?_ | with_reducible refine bwh_alloc ?_ | with_reducible refine bwh_drew ?_ | with_reducible refine bwh_call (by assumption) ?_))
  have HB2 : Hid (Below w.heap.size w w3) := by (repeat (first | with_reducible assumption | (with_reducible refine new_cell ?_ ?_ <;> first | rfl | (simp; done)) | with_reducible refine keep_alloc ?_ | with_reducible refine keep_drew ?_ | with_reducible refine keep_cell (by assumption) ?_ | with_reducible refine bwh_alloc ?_ | with_reducible refine bwh_drew ?_ | with_reducible refine bwh_call (by assumption) ?_))
  clear hb3 K1 HB a0 b0 a1 b1 a2 b2 a3 b3 a4 b4 a5 b5 a6 b6 a7 b7 a8 b8 a9 b9 a10 b10
  go_wp2_with fail
  refine (KR.out _).mono ?_
  rintro x w4 ⟨rfl, hb4⟩
  replace c0 := keep_cell hb4 c0
  replace d0 := keep_cell hb4 d0
  replace c1 := keep_cell hb4 c1
  replace d1 := keep_cell hb4 d1
  replace c2 := keep_cell hb4 c2
  replace d2 := keep_cell hb4 d2
  replace c3 := keep_cell hb4 c3
  replace d3 := keep_cell hb4 d3
  replace c4 := keep_cell hb4 c4
  replace d4 := keep_cell hb4 d4
  replace c5 := keep_cell hb4 c5
  replace d5 := keep_cell hb4 d5
  replace c6 := keep_cell hb4 c6
  replace d6 := keep_cell hb4 d6
  replace c7 := keep_cell hb4 c7
  replace d7 := keep_cell hb4 d7
  replace c8 := keep_cell hb4 c8
  replace d8 := keep_cell hb4 d8
  replace c9 := keep_cell hb4 c9
  replace d9 := keep_cell hb4 d9
  replace c10 := keep_cell hb4 c10
  replace d10 := keep_cell hb4 d10
  replace HB2 := bwh_call hb4 HB2
  clear hb4 KR
  go_wp2_with fail
  refine (KA.out _ HB2).mono ?_
  rintro x w5 ⟨rfl, hb5⟩
  have hbe := bw_call hb5 HB2.out
  go_wp2
  go_ret
  exact ⟨rfl, hbe⟩

end Go.Proofs.YtlggbbaigcnpjaaDoor
