/-
  THE CONTRACT OF record.Print, of a right record that changes a page and has an Undo.
-/
import Derived.Test.YtlggbbaigcnpjaaDoorRpRow
namespace Go.Proofs.YtlggbbaigcnpjaaDoor
open Go.RowKit
set_option linter.unusedVariables false

set_option maxRecDepth 100000 in
set_option maxHeartbeats 4000000 in
theorem print_Q (K : Nat) (g t p pg u : Int) (key sb sa B T1 T2 T3 T4 T5 T6 T7 T8 : ByteArray) (hb ha : Bool) (w : World) (hK : K < 7) (hr : rcOk (K : Int) g t p pg key hb sb ha sa u = true)
    (hc : ((K : Int) == 2 || (K : Int) == 3) = true) (hu : 0 < usz (K : Int))
    (cn : w.cell? ⟨0, K, none⟩ = some (.string B)) (hT : Tab w)
    (I1 : Hid (∀ W, Tab W → Calls Tryd.prog 30 #[.int .i64 t] W fun e w' => e = .returned (.string T1) ∧ Below W.heap.size W w'))
    (I2 : Hid (∀ W, Tab W → Calls Tryd.prog 30 #[.int .i64 g] W fun e w' => e = .returned (.string T2) ∧ Below W.heap.size W w'))
    (I3 : Hid (∀ W, Tab W → Calls Tryd.prog 30 #[.int .i64 p] W fun e w' => e = .returned (.string T3) ∧ Below W.heap.size W w'))
    (I4 : Hid (∀ W, Tab W → Calls Tryd.prog 30 #[.int .i64 pg] W fun e w' => e = .returned (.string T4) ∧ Below W.heap.size W w'))
    (I5 : Hid (∀ W, Calls Tryd.prog 31 #[.string key] W fun e w' => e = .returned (.string T5) ∧ Below W.heap.size W w'))
    (I6 : Hid (∀ W, Calls Tryd.prog 32 #[.agg #[.bool hb, .string sb]] W fun e w' => e = .returned (.string T6) ∧ Below W.heap.size W w'))
    (I7 : Hid (∀ W, Calls Tryd.prog 32 #[.agg #[.bool ha, .string sa]] W fun e w' => e = .returned (.string T7) ∧ Below W.heap.size W w'))
    (I8 : Hid (∀ W, Tab W → Calls Tryd.prog 30 #[.int .i64 u] W fun e w' => e = .returned (.string T8) ∧ Below W.heap.size W w'))
    (hl : (Lib.join ([B, T1, T2, T3, T4, T5, T6, T7, T8].map (·.data.toList)) [32]).length ≤ 100000) :
    Calls Tryd.prog 12 #[.agg #[.int .i64 (K : Int), .int .i64 g, .int .i64 t, .int .i64 p, .int .i64 pg, .string key, .bool hb, .string sb, .bool ha, .string sa, .int .i64 u]] w fun e w' => e = .returned (.string (txt (Lib.join ([B, T1, T2, T3, T4, T5, T6, T7, T8].map (·.data.toList)) [32]))) ∧ Below w.heap.size w w' := by
  obtain ⟨i0, hi, hz0, hz1, hz2⟩ := info_parts infoS
  have HR := Lib.hid (right_at (K : Int) g t p pg u key sb sa hb ha)
  rw [hr] at HR
  have HK := Lib.hid (fun W => changes_any (K : Int) W)
  rw [hc] at HK
  obtain ⟨us, hus⟩ : ∃ us, usz (K : Int) = us := ⟨_, rfl⟩
  rw [hus] at hu
  have HU := Lib.hid (fun W => undoSize_any (K : Int) W)
  rw [hus] at HU
  have hu2 : (0 : Int) < (us : Int) := by omega
  have HJ : Hid (∀ W G c, WordsAt W G c [B, T1, T2, T3, T4, T5, T6, T7, T8] → Calls Tryd.prog 33 #[.slice (some ⟨G, 0, none⟩) 9 c, .string ⟨#[32]⟩] W fun e w' => e = .returned (.string (txt (Lib.join ([B, T1, T2, T3, T4, T5, T6, T7, T8].map (·.data.toList)) [32]))) ∧ Below W.heap.size W w') := fun W G c h => h.join rfl (by omega) hl
  have hk0 : (0 : Int) ≤ (K : Int) := by omega
  have hk7 : (K : Int) < 7 := by omega
  generalize txt (Lib.join ([B, T1, T2, T3, T4, T5, T6, T7, T8].map (·.data.toList)) [32]) = J at HJ ⊢
  clear hr hc hu hl hus
  go_enter Tryd.func12, Tryd.ntmps12
  go_wp2_with fail
  refine (HR.out _ _ ?_).mono ?_
  · exact rcIn_new _ _ _ _ _ _ _ _ _ _ _ _ _ _ (by rw [World.size_alloc])
  rintro x w1 ⟨rfl, hb1⟩
  have c0 : w1.cell? ⟨w.heap.size, 0, none⟩ = some (.int .i64 (K : Int)) := keep_cell hb1 (keep_alloc (new_cell rfl rfl))
  have c1 : w1.cell? ⟨w.heap.size, 1, none⟩ = some (.int .i64 g) := keep_cell hb1 (keep_alloc (new_cell rfl rfl))
  have c2 : w1.cell? ⟨w.heap.size, 2, none⟩ = some (.int .i64 t) := keep_cell hb1 (keep_alloc (new_cell rfl rfl))
  have c3 : w1.cell? ⟨w.heap.size, 3, none⟩ = some (.int .i64 p) := keep_cell hb1 (keep_alloc (new_cell rfl rfl))
  have c4 : w1.cell? ⟨w.heap.size, 4, none⟩ = some (.int .i64 pg) := keep_cell hb1 (keep_alloc (new_cell rfl rfl))
  have c5 : w1.cell? ⟨w.heap.size, 5, none⟩ = some (.string key) := keep_cell hb1 (keep_alloc (new_cell rfl rfl))
  have c6 : w1.cell? ⟨w.heap.size, 6, none⟩ = some (.bool hb) := keep_cell hb1 (keep_alloc (new_cell rfl rfl))
  have c7 : w1.cell? ⟨w.heap.size, 7, none⟩ = some (.string sb) := keep_cell hb1 (keep_alloc (new_cell rfl rfl))
  have c8 : w1.cell? ⟨w.heap.size, 8, none⟩ = some (.bool ha) := keep_cell hb1 (keep_alloc (new_cell rfl rfl))
  have c9 : w1.cell? ⟨w.heap.size, 9, none⟩ = some (.string sa) := keep_cell hb1 (keep_alloc (new_cell rfl rfl))
  have c10 : w1.cell? ⟨w.heap.size, 10, none⟩ = some (.int .i64 u) := keep_cell hb1 (keep_alloc (new_cell rfl rfl))
  replace cn : w1.cell? ⟨0, K, none⟩ = some (.string B) := keep_cell hb1 (keep_alloc (keep_alloc cn))
  replace hT : Tab w1 := Tab.below (Tab.alloc (Tab.alloc hT)) hb1
  have HB : Hid (Below w.heap.size w w1) := bw_call hb1 (bw_alloc (bw_alloc (Below.refl _ _)))
  clear hb1 HR
  go_wp2_with fail
  go_region_held3 (fun w' => w'.cell? ⟨w.heap.size, 0, none⟩ = some (.int .i64 (K : Int)) ∧ w'.cell? ⟨w.heap.size, 1, none⟩ = some (.int .i64 g) ∧ w'.cell? ⟨w.heap.size, 2, none⟩ = some (.int .i64 t) ∧ w'.cell? ⟨w.heap.size, 3, none⟩ = some (.int .i64 p) ∧ w'.cell? ⟨w.heap.size, 4, none⟩ = some (.int .i64 pg) ∧ w'.cell? ⟨w.heap.size, 5, none⟩ = some (.string key) ∧ w'.cell? ⟨w.heap.size, 6, none⟩ = some (.bool hb) ∧ w'.cell? ⟨w.heap.size, 7, none⟩ = some (.string sb) ∧ w'.cell? ⟨w.heap.size, 8, none⟩ = some (.bool ha) ∧ w'.cell? ⟨w.heap.size, 9, none⟩ = some (.string sa) ∧ w'.cell? ⟨w.heap.size, 10, none⟩ = some (.int .i64 u) ∧ w'.cell? ⟨0, K, none⟩ = some (.string B) ∧ Tab w')
    ((refine ⟨?_, ?_, ?_, ?_, ?_, ?_, ?_, ?_, ?_, ?_, ?_, ?_, ?_⟩ <;> (repeat (first | with_reducible assumption | (with_reducible refine WordsAt.new ?_; (first | rfl | simp)) | (with_reducible refine new_cell ?_ ?_ <;> first | rfl | (simp; done)) | with_reducible refine keep_alloc ?_ | with_reducible refine keep_drew ?_ | with_reducible refine Tab.alloc ?_ | with_reducible refine Tab.drew ?_ | with_reducible refine WordsAt.alloc ?_ | with_reducible refine WordsAt.drew ?_ | with_reducible refine keep_cell (by assumption) ?_ | with_reducible refine Tab.below ?_ (by assumption) | with_reducible refine WordsAt.below ?_ (by assumption)))))
    (first
      | (go_at_call_of 30 (Value.int .i64 t); refine (I1.out _ ?_).mono ?_; (repeat (first | with_reducible assumption | (with_reducible refine WordsAt.new ?_; (first | rfl | simp)) | (with_reducible refine new_cell ?_ ?_ <;> first | rfl | (simp; done)) | with_reducible refine keep_alloc ?_ | with_reducible refine keep_drew ?_ | with_reducible refine Tab.alloc ?_ | with_reducible refine Tab.drew ?_ | with_reducible refine WordsAt.alloc ?_ | with_reducible refine WordsAt.drew ?_ | with_reducible refine keep_cell (by assumption) ?_ | with_reducible refine Tab.below ?_ (by assumption) | with_reducible refine WordsAt.below ?_ (by assumption))); rintro x wz ⟨rfl, hbz⟩)
      | (go_at_call_of 30 (Value.int .i64 g); refine (I2.out _ ?_).mono ?_; (repeat (first | with_reducible assumption | (with_reducible refine WordsAt.new ?_; (first | rfl | simp)) | (with_reducible refine new_cell ?_ ?_ <;> first | rfl | (simp; done)) | with_reducible refine keep_alloc ?_ | with_reducible refine keep_drew ?_ | with_reducible refine Tab.alloc ?_ | with_reducible refine Tab.drew ?_ | with_reducible refine WordsAt.alloc ?_ | with_reducible refine WordsAt.drew ?_ | with_reducible refine keep_cell (by assumption) ?_ | with_reducible refine Tab.below ?_ (by assumption) | with_reducible refine WordsAt.below ?_ (by assumption))); rintro x wz ⟨rfl, hbz⟩)
      | (go_at_call_of 30 (Value.int .i64 p); refine (I3.out _ ?_).mono ?_; (repeat (first | with_reducible assumption | (with_reducible refine WordsAt.new ?_; (first | rfl | simp)) | (with_reducible refine new_cell ?_ ?_ <;> first | rfl | (simp; done)) | with_reducible refine keep_alloc ?_ | with_reducible refine keep_drew ?_ | with_reducible refine Tab.alloc ?_ | with_reducible refine Tab.drew ?_ | with_reducible refine WordsAt.alloc ?_ | with_reducible refine WordsAt.drew ?_ | with_reducible refine keep_cell (by assumption) ?_ | with_reducible refine Tab.below ?_ (by assumption) | with_reducible refine WordsAt.below ?_ (by assumption))); rintro x wz ⟨rfl, hbz⟩))
  go_wp2_with fail
  refine (HK.out _).mono ?_
  rintro x W ⟨rfl, hW⟩
  have d0 : W.cell? ⟨w.heap.size, 0, none⟩ = some (.int .i64 (K : Int)) := by rw [← hW]; (repeat (first | with_reducible assumption | (with_reducible refine WordsAt.new ?_; (first | rfl | simp)) | (with_reducible refine new_cell ?_ ?_ <;> first | rfl | (simp; done)) | with_reducible refine keep_alloc ?_ | with_reducible refine keep_drew ?_ | with_reducible refine Tab.alloc ?_ | with_reducible refine Tab.drew ?_ | with_reducible refine WordsAt.alloc ?_ | with_reducible refine WordsAt.drew ?_ | with_reducible refine keep_cell (by assumption) ?_ | with_reducible refine Tab.below ?_ (by assumption) | with_reducible refine WordsAt.below ?_ (by assumption)))
  have d4 : W.cell? ⟨w.heap.size, 4, none⟩ = some (.int .i64 pg) := by rw [← hW]; (repeat (first | with_reducible assumption | (with_reducible refine WordsAt.new ?_; (first | rfl | simp)) | (with_reducible refine new_cell ?_ ?_ <;> first | rfl | (simp; done)) | with_reducible refine keep_alloc ?_ | with_reducible refine keep_drew ?_ | with_reducible refine Tab.alloc ?_ | with_reducible refine Tab.drew ?_ | with_reducible refine WordsAt.alloc ?_ | with_reducible refine WordsAt.drew ?_ | with_reducible refine keep_cell (by assumption) ?_ | with_reducible refine Tab.below ?_ (by assumption) | with_reducible refine WordsAt.below ?_ (by assumption)))
  have d5 : W.cell? ⟨w.heap.size, 5, none⟩ = some (.string key) := by rw [← hW]; (repeat (first | with_reducible assumption | (with_reducible refine WordsAt.new ?_; (first | rfl | simp)) | (with_reducible refine new_cell ?_ ?_ <;> first | rfl | (simp; done)) | with_reducible refine keep_alloc ?_ | with_reducible refine keep_drew ?_ | with_reducible refine Tab.alloc ?_ | with_reducible refine Tab.drew ?_ | with_reducible refine WordsAt.alloc ?_ | with_reducible refine WordsAt.drew ?_ | with_reducible refine keep_cell (by assumption) ?_ | with_reducible refine Tab.below ?_ (by assumption) | with_reducible refine WordsAt.below ?_ (by assumption)))
  have d6 : W.cell? ⟨w.heap.size, 6, none⟩ = some (.bool hb) := by rw [← hW]; (repeat (first | with_reducible assumption | (with_reducible refine WordsAt.new ?_; (first | rfl | simp)) | (with_reducible refine new_cell ?_ ?_ <;> first | rfl | (simp; done)) | with_reducible refine keep_alloc ?_ | with_reducible refine keep_drew ?_ | with_reducible refine Tab.alloc ?_ | with_reducible refine Tab.drew ?_ | with_reducible refine WordsAt.alloc ?_ | with_reducible refine WordsAt.drew ?_ | with_reducible refine keep_cell (by assumption) ?_ | with_reducible refine Tab.below ?_ (by assumption) | with_reducible refine WordsAt.below ?_ (by assumption)))
  have d7 : W.cell? ⟨w.heap.size, 7, none⟩ = some (.string sb) := by rw [← hW]; (repeat (first | with_reducible assumption | (with_reducible refine WordsAt.new ?_; (first | rfl | simp)) | (with_reducible refine new_cell ?_ ?_ <;> first | rfl | (simp; done)) | with_reducible refine keep_alloc ?_ | with_reducible refine keep_drew ?_ | with_reducible refine Tab.alloc ?_ | with_reducible refine Tab.drew ?_ | with_reducible refine WordsAt.alloc ?_ | with_reducible refine WordsAt.drew ?_ | with_reducible refine keep_cell (by assumption) ?_ | with_reducible refine Tab.below ?_ (by assumption) | with_reducible refine WordsAt.below ?_ (by assumption)))
  have d8 : W.cell? ⟨w.heap.size, 8, none⟩ = some (.bool ha) := by rw [← hW]; (repeat (first | with_reducible assumption | (with_reducible refine WordsAt.new ?_; (first | rfl | simp)) | (with_reducible refine new_cell ?_ ?_ <;> first | rfl | (simp; done)) | with_reducible refine keep_alloc ?_ | with_reducible refine keep_drew ?_ | with_reducible refine Tab.alloc ?_ | with_reducible refine Tab.drew ?_ | with_reducible refine WordsAt.alloc ?_ | with_reducible refine WordsAt.drew ?_ | with_reducible refine keep_cell (by assumption) ?_ | with_reducible refine Tab.below ?_ (by assumption) | with_reducible refine WordsAt.below ?_ (by assumption)))
  have d9 : W.cell? ⟨w.heap.size, 9, none⟩ = some (.string sa) := by rw [← hW]; (repeat (first | with_reducible assumption | (with_reducible refine WordsAt.new ?_; (first | rfl | simp)) | (with_reducible refine new_cell ?_ ?_ <;> first | rfl | (simp; done)) | with_reducible refine keep_alloc ?_ | with_reducible refine keep_drew ?_ | with_reducible refine Tab.alloc ?_ | with_reducible refine Tab.drew ?_ | with_reducible refine WordsAt.alloc ?_ | with_reducible refine WordsAt.drew ?_ | with_reducible refine keep_cell (by assumption) ?_ | with_reducible refine Tab.below ?_ (by assumption) | with_reducible refine WordsAt.below ?_ (by assumption)))
  have d10 : W.cell? ⟨w.heap.size, 10, none⟩ = some (.int .i64 u) := by rw [← hW]; (repeat (first | with_reducible assumption | (with_reducible refine WordsAt.new ?_; (first | rfl | simp)) | (with_reducible refine new_cell ?_ ?_ <;> first | rfl | (simp; done)) | with_reducible refine keep_alloc ?_ | with_reducible refine keep_drew ?_ | with_reducible refine Tab.alloc ?_ | with_reducible refine Tab.drew ?_ | with_reducible refine WordsAt.alloc ?_ | with_reducible refine WordsAt.drew ?_ | with_reducible refine keep_cell (by assumption) ?_ | with_reducible refine Tab.below ?_ (by assumption) | with_reducible refine WordsAt.below ?_ (by assumption)))
  have hT2 : Tab W := by rw [← hW]; (repeat (first | with_reducible assumption | (with_reducible refine WordsAt.new ?_; (first | rfl | simp)) | (with_reducible refine new_cell ?_ ?_ <;> first | rfl | (simp; done)) | with_reducible refine keep_alloc ?_ | with_reducible refine keep_drew ?_ | with_reducible refine Tab.alloc ?_ | with_reducible refine Tab.drew ?_ | with_reducible refine WordsAt.alloc ?_ | with_reducible refine WordsAt.drew ?_ | with_reducible refine keep_cell (by assumption) ?_ | with_reducible refine Tab.below ?_ (by assumption) | with_reducible refine WordsAt.below ?_ (by assumption)))
  have hX : WordsAt W wz.heap.size 4 [B, T1, T2, T3] := by rw [← hW]; (repeat (first | with_reducible assumption | (with_reducible refine WordsAt.new ?_; (first | rfl | simp)) | (with_reducible refine new_cell ?_ ?_ <;> first | rfl | (simp; done)) | with_reducible refine keep_alloc ?_ | with_reducible refine keep_drew ?_ | with_reducible refine Tab.alloc ?_ | with_reducible refine Tab.drew ?_ | with_reducible refine WordsAt.alloc ?_ | with_reducible refine WordsAt.drew ?_ | with_reducible refine keep_cell (by assumption) ?_ | with_reducible refine Tab.below ?_ (by assumption) | with_reducible refine WordsAt.below ?_ (by assumption)))
  have hb1 := HB.out
  have HB2 := Lib.hid (show Below w.heap.size w W by rw [← hW]; (repeat (first | with_reducible assumption | with_reducible exact Below.refl _ _ | with_reducible refine bw_alloc ?_ | with_reducible refine bw_drew ?_ | with_reducible refine bw_call (by assumption) ?_)))
  have hXs : w.heap.size ≤ wz.heap.size := by have : Below w.heap.size w wz := (by (repeat (first | with_reducible assumption | with_reducible exact Below.refl _ _ | with_reducible refine bw_alloc ?_ | with_reducible refine bw_drew ?_ | with_reducible refine bw_call (by assumption) ?_))); exact this.size
  clear hb1 hW HB HK cn hT c0 c1 c2 c3 c4 c5 c6 c7 c8 c9 c10
  generalize wz.heap.size = X at *
  go_wp2_with fail
  go_region_held3 (fun w' => w'.cell? ⟨w.heap.size, 0, none⟩ = some (.int .i64 (K : Int)) ∧ w'.cell? ⟨w.heap.size, 4, none⟩ = some (.int .i64 pg) ∧ w'.cell? ⟨w.heap.size, 5, none⟩ = some (.string key) ∧ w'.cell? ⟨w.heap.size, 6, none⟩ = some (.bool hb) ∧ w'.cell? ⟨w.heap.size, 7, none⟩ = some (.string sb) ∧ w'.cell? ⟨w.heap.size, 8, none⟩ = some (.bool ha) ∧ w'.cell? ⟨w.heap.size, 9, none⟩ = some (.string sa) ∧ w'.cell? ⟨w.heap.size, 10, none⟩ = some (.int .i64 u) ∧ Tab w' ∧ WordsAt w' X 4 [B, T1, T2, T3])
    ((refine ⟨?_, ?_, ?_, ?_, ?_, ?_, ?_, ?_, ?_, ?_⟩ <;> (repeat (first | with_reducible assumption | (with_reducible refine WordsAt.new ?_; (first | rfl | simp)) | (with_reducible refine new_cell ?_ ?_ <;> first | rfl | (simp; done)) | with_reducible refine keep_alloc ?_ | with_reducible refine keep_drew ?_ | with_reducible refine Tab.alloc ?_ | with_reducible refine Tab.drew ?_ | with_reducible refine WordsAt.alloc ?_ | with_reducible refine WordsAt.drew ?_ | with_reducible refine keep_cell (by assumption) ?_ | with_reducible refine Tab.below ?_ (by assumption) | with_reducible refine WordsAt.below ?_ (by assumption)))))
    (first
      | (go_at_call_of 30 (Value.int .i64 pg); refine (I4.out _ ?_).mono ?_; (repeat (first | with_reducible assumption | (with_reducible refine WordsAt.new ?_; (first | rfl | simp)) | (with_reducible refine new_cell ?_ ?_ <;> first | rfl | (simp; done)) | with_reducible refine keep_alloc ?_ | with_reducible refine keep_drew ?_ | with_reducible refine Tab.alloc ?_ | with_reducible refine Tab.drew ?_ | with_reducible refine WordsAt.alloc ?_ | with_reducible refine WordsAt.drew ?_ | with_reducible refine keep_cell (by assumption) ?_ | with_reducible refine Tab.below ?_ (by assumption) | with_reducible refine WordsAt.below ?_ (by assumption))); rintro x wz ⟨rfl, hbz⟩)
      | (go_at_call_of 31 (Value.string key); refine (I5.out _).mono ?_; rintro x wz ⟨rfl, hbz⟩)
      | (go_at_call_of 32 (Value.agg #[.bool hb, .string sb]); refine (I6.out _).mono ?_; rintro x wz ⟨rfl, hbz⟩)
      | (go_at_call_of 32 (Value.agg #[.bool ha, .string sa]); refine (I7.out _).mono ?_; rintro x wz ⟨rfl, hbz⟩)
      | (refine step_append_grows (by rfl) _ _ _ (by rfl) 9 i0 _ 1 16 Tryd.underlying56 hi hz0 hz1 hz2 rfl (by omega) (some ⟨X, 0, none⟩) 4 4 ([B, T1, T2, T3].map Value.string) (by rfl) (fun e => by cases e) (by rfl) (fun b e => by cases e; exact WordsAt.cells (c := 4) (by (repeat (first | with_reducible assumption | (with_reducible refine WordsAt.new ?_; (first | rfl | simp)) | (with_reducible refine new_cell ?_ ?_ <;> first | rfl | (simp; done)) | with_reducible refine keep_alloc ?_ | with_reducible refine keep_drew ?_ | with_reducible refine Tab.alloc ?_ | with_reducible refine Tab.drew ?_ | with_reducible refine WordsAt.alloc ?_ | with_reducible refine WordsAt.drew ?_ | with_reducible refine keep_cell (by assumption) ?_ | with_reducible refine Tab.below ?_ (by assumption) | with_reducible refine WordsAt.below ?_ (by assumption))))) ⟨_, 0, none⟩ 4 4 _ (by rfl) (by rfl) (World.news_of_block (heap_alloc_new _ _)) (by simp [Value.oneCell']) (by omega) (by unfold maxLen; omega) (by omega) ?_; intro v9 wa hown1 hgrow; have hbz := grown_below hgrow; obtain ⟨gg, cap, rfl, hgb, hgw⟩ := words_form (xs := [B, T1, T2, T3, T4, T5, T6, T7]) hown1 rfl rfl (by omega); clear hown1 hgrow))
  go_wp2_with fail
  refine (HU.out _).mono ?_
  rintro x W2 ⟨rfl, hW2⟩
  have hX2 : WordsAt W2 gg cap [B, T1, T2, T3, T4, T5, T6, T7] := by rw [← hW2]; (repeat (first | with_reducible assumption | (with_reducible refine WordsAt.new ?_; (first | rfl | simp)) | (with_reducible refine new_cell ?_ ?_ <;> first | rfl | (simp; done)) | with_reducible refine keep_alloc ?_ | with_reducible refine keep_drew ?_ | with_reducible refine Tab.alloc ?_ | with_reducible refine Tab.drew ?_ | with_reducible refine WordsAt.alloc ?_ | with_reducible refine WordsAt.drew ?_ | with_reducible refine keep_cell (by assumption) ?_ | with_reducible refine Tab.below ?_ (by assumption) | with_reducible refine WordsAt.below ?_ (by assumption)))
  have hb1 := HB2.out
  have hgs : w.heap.size ≤ gg := by refine Nat.le_trans (Below.size (B := w.heap.size) (w := w) ?_) hgb; (repeat (first | with_reducible assumption | with_reducible exact Below.refl _ _ | with_reducible refine bw_alloc ?_ | with_reducible refine bw_drew ?_ | with_reducible refine bw_call (by assumption) ?_))
  clear hb1
  have HB3 := Lib.hid (show Below w.heap.size w W2 by rw [← hW2]; have hb1 := HB2.out; (repeat (first | with_reducible assumption | with_reducible exact Below.refl _ _ | with_reducible refine bw_alloc ?_ | with_reducible refine bw_drew ?_ | with_reducible refine bw_call (by assumption) ?_)))
  have e10 : W2.cell? ⟨w.heap.size, 10, none⟩ = some (.int .i64 u) := by rw [← hW2]; (repeat (first | with_reducible assumption | (with_reducible refine WordsAt.new ?_; (first | rfl | simp)) | (with_reducible refine new_cell ?_ ?_ <;> first | rfl | (simp; done)) | with_reducible refine keep_alloc ?_ | with_reducible refine keep_drew ?_ | with_reducible refine Tab.alloc ?_ | with_reducible refine Tab.drew ?_ | with_reducible refine WordsAt.alloc ?_ | with_reducible refine WordsAt.drew ?_ | with_reducible refine keep_cell (by assumption) ?_ | with_reducible refine Tab.below ?_ (by assumption) | with_reducible refine WordsAt.below ?_ (by assumption)))
  have hT3 : Tab W2 := by rw [← hW2]; (repeat (first | with_reducible assumption | (with_reducible refine WordsAt.new ?_; (first | rfl | simp)) | (with_reducible refine new_cell ?_ ?_ <;> first | rfl | (simp; done)) | with_reducible refine keep_alloc ?_ | with_reducible refine keep_drew ?_ | with_reducible refine Tab.alloc ?_ | with_reducible refine Tab.drew ?_ | with_reducible refine WordsAt.alloc ?_ | with_reducible refine WordsAt.drew ?_ | with_reducible refine keep_cell (by assumption) ?_ | with_reducible refine Tab.below ?_ (by assumption) | with_reducible refine WordsAt.below ?_ (by assumption)))
  clear hW2 hX HB2 HU hT2 hXs d0 d4 d5 d6 d7 d8 d9 d10 hgb hgw
  go_wp2_with fail
  refine (I8.out _ hT3).mono ?_
  rintro x W3 ⟨rfl, hb3⟩
  have hX3 := hX2.below hb3
  have HB4 : Hid (Below w.heap.size w W3) := bw_call hb3 HB3.out
  clear hb3 HB3 hX2 hT3 e10
  have hs3 := HB4.out.size
  go_wp2_with (at_builtin; refine wpList_append_own_at _ rfl _ _ 56 rfl 0 9 i0 (.string ⟨#[]⟩) 1 16 Tryd.underlying56 hi hz0 hz1 hz2 rfl (by decide) (.slice (some ⟨gg, 0, none⟩) 8 cap) 8 _ rfl (World.ownsRow.alloc hX3 _) ⟨W3.heap.size, 0, none⟩ 1 1 [.string T8] rfl rfl (World.news_of_block (heap_alloc_new _ _)) ?c2 ?c3 ?c4 ?c5 ?_)
  case c2 => intro v hv; simp at hv; subst hv; rfl
  case c3 => unfold maxLen; omega
  case c4 => omega
  case c5 => exact Nat.zero_le _
  intro v9 w9 hown9 hgrow9 _ _
  have hbn : Below w.heap.size w w9 := (HB4.out.alloc hs3 _).grown hgrow9 (by simp; omega) (fun k hk => by simp [Value.ownBlock] at hk; omega)
  obtain ⟨g9, c9, rfl, _, hgw9⟩ := words_form (xs := [B, T1, T2, T3, T4, T5, T6, T7, T8]) hown9 rfl rfl (by omega)
  clear hown9 hgrow9 hX3
  go_wp2_with fail
  refine (HJ.out _ _ _ hgw9).mono ?_
  rintro x W4 ⟨rfl, hb4⟩
  go_wp2
  go_ret
  exact ⟨rfl, bw_call hb4 hbn⟩
end Go.Proofs.YtlggbbaigcnpjaaDoor
