/-
  THE CONTRACT OF record.Print, of a right record that changes no page.
-/
import Derived.Test.YtlggbbaigcnpjaaDoorRpRow
namespace Go.Proofs.YtlggbbaigcnpjaaDoor
open Go.RowKit
set_option linter.unusedVariables false

set_option maxRecDepth 100000 in
set_option maxHeartbeats 4000000 in
theorem print_N (K : Nat) (g t p pg u : Int) (key sb sa B T1 T2 T3 : ByteArray) (hb ha : Bool) (w : World) (hK : K < 7) (hr : rcOk (K : Int) g t p pg key hb sb ha sa u = true)
    (hc : ((K : Int) == 2 || (K : Int) == 3) = false) (hu : 0 = usz (K : Int))
    (cn : w.cell? ⟨0, K, none⟩ = some (.string B)) (hT : Tab w)
    (I1 : Hid (∀ W, Tab W → Calls Tryd.prog 30 #[.int .i64 t] W fun e w' => e = .returned (.string T1) ∧ Below W.heap.size W w'))
    (I2 : Hid (∀ W, Tab W → Calls Tryd.prog 30 #[.int .i64 g] W fun e w' => e = .returned (.string T2) ∧ Below W.heap.size W w'))
    (I3 : Hid (∀ W, Tab W → Calls Tryd.prog 30 #[.int .i64 p] W fun e w' => e = .returned (.string T3) ∧ Below W.heap.size W w'))
    (hl : (Lib.join ([B, T1, T2, T3].map (·.data.toList)) [32]).length ≤ 100000) :
    Calls Tryd.prog 12 #[.agg #[.int .i64 (K : Int), .int .i64 g, .int .i64 t, .int .i64 p, .int .i64 pg, .string key, .bool hb, .string sb, .bool ha, .string sa, .int .i64 u]] w fun e w' => e = .returned (.string (txt (Lib.join ([B, T1, T2, T3].map (·.data.toList)) [32]))) ∧ Below w.heap.size w w' := by
  obtain ⟨i0, hi, hz0, hz1, hz2⟩ := info_parts infoS
  have HR := Lib.hid (right_at (K : Int) g t p pg u key sb sa hb ha)
  rw [hr] at HR
  have HK := Lib.hid (fun W => changes_any (K : Int) W)
  rw [hc] at HK
  obtain ⟨us, hus⟩ : ∃ us, usz (K : Int) = us := ⟨_, rfl⟩
  rw [hus] at hu
  have HU := Lib.hid (fun W => undoSize_any (K : Int) W)
  rw [hus] at HU
  have hu2 : (us : Int) ≤ 0 := by omega
  have HJ : Hid (∀ W G c, WordsAt W G c [B, T1, T2, T3] → Calls Tryd.prog 33 #[.slice (some ⟨G, 0, none⟩) 4 c, .string ⟨#[32]⟩] W fun e w' => e = .returned (.string (txt (Lib.join ([B, T1, T2, T3].map (·.data.toList)) [32]))) ∧ Below W.heap.size W w') := fun W G c h => h.join rfl (by omega) hl
  have hk0 : (0 : Int) ≤ (K : Int) := by omega
  have hk7 : (K : Int) < 7 := by omega
  generalize txt (Lib.join ([B, T1, T2, T3].map (·.data.toList)) [32]) = J at HJ ⊢
  clear hr hc hu hl hus
  go_enter Tryd.func12, Tryd.ntmps12
  go_wp2_with fail
  refine (HR.out _ _ ?_).mono ?_
  · exact rcIn_new _ _ _ _ _ _ _ _ _ _ _ _ _ _ (by rw [World.size_alloc])
  rintro x w1 ⟨rfl, hb1⟩
  have c0 : w1.cell? ⟨w.heap.size, 0, none⟩ = some (.int .i64 (K : Int)) := keep_cell hb1 (keep_alloc (new_cell rfl rfl))
  have c1 : w1.cell? ⟨w.heap.size, 1, none⟩ = some (.int .i64 g) := keep_cell hb1 (keep_alloc (new_cell rfl rfl))
  have c2 : w1.cell? ⟨w.heap.size, 2, none⟩ = some (.int .i64 t) := keep_cell hb1 (keep_alloc (new_cell rfl rfl))
  have c3 : w1.cell? ⟨w.heap.size, 3, none⟩ = some (.int .i64 p) := keep_cell hb1 (keep_alloc (new_cell rfl rfl))
  replace cn : w1.cell? ⟨0, K, none⟩ = some (.string B) := keep_cell hb1 (keep_alloc (keep_alloc cn))
  replace hT : Tab w1 := Tab.below (Tab.alloc (Tab.alloc hT)) hb1
  have HB : Hid (Below w.heap.size w w1) := bw_call hb1 (bw_alloc (bw_alloc (Below.refl _ _)))
  clear hb1 HR
  go_wp2_with fail
  go_region_held3 (fun w' => w'.cell? ⟨w.heap.size, 0, none⟩ = some (.int .i64 (K : Int)) ∧ w'.cell? ⟨w.heap.size, 1, none⟩ = some (.int .i64 g) ∧ w'.cell? ⟨w.heap.size, 2, none⟩ = some (.int .i64 t) ∧ w'.cell? ⟨w.heap.size, 3, none⟩ = some (.int .i64 p) ∧ w'.cell? ⟨0, K, none⟩ = some (.string B) ∧ Tab w')
    ((refine ⟨?_, ?_, ?_, ?_, ?_, ?_⟩ <;> (repeat (first | with_reducible assumption | (with_reducible refine WordsAt.new ?_; (first | rfl | simp)) | (with_reducible refine new_cell ?_ ?_ <;> first | rfl | (simp; done)) | with_reducible refine keep_alloc ?_ | with_reducible refine keep_drew ?_ | with_reducible refine Tab.alloc ?_ | with_reducible refine Tab.drew ?_ | with_reducible refine WordsAt.alloc ?_ | with_reducible refine WordsAt.drew ?_ | with_reducible refine keep_cell (by assumption) ?_ | with_reducible refine Tab.below ?_ (by assumption) | with_reducible refine WordsAt.below ?_ (by assumption)))))
    (first
      | (go_at_call_of 30 (Value.int .i64 t); refine (I1.out _ ?_).mono ?_; (repeat (first | with_reducible assumption | (with_reducible refine WordsAt.new ?_; (first | rfl | simp)) | (with_reducible refine new_cell ?_ ?_ <;> first | rfl | (simp; done)) | with_reducible refine keep_alloc ?_ | with_reducible refine keep_drew ?_ | with_reducible refine Tab.alloc ?_ | with_reducible refine Tab.drew ?_ | with_reducible refine WordsAt.alloc ?_ | with_reducible refine WordsAt.drew ?_ | with_reducible refine keep_cell (by assumption) ?_ | with_reducible refine Tab.below ?_ (by assumption) | with_reducible refine WordsAt.below ?_ (by assumption))); rintro x wz ⟨rfl, hbz⟩)
      | (go_at_call_of 30 (Value.int .i64 g); refine (I2.out _ ?_).mono ?_; (repeat (first | with_reducible assumption | (with_reducible refine WordsAt.new ?_; (first | rfl | simp)) | (with_reducible refine new_cell ?_ ?_ <;> first | rfl | (simp; done)) | with_reducible refine keep_alloc ?_ | with_reducible refine keep_drew ?_ | with_reducible refine Tab.alloc ?_ | with_reducible refine Tab.drew ?_ | with_reducible refine WordsAt.alloc ?_ | with_reducible refine WordsAt.drew ?_ | with_reducible refine keep_cell (by assumption) ?_ | with_reducible refine Tab.below ?_ (by assumption) | with_reducible refine WordsAt.below ?_ (by assumption))); rintro x wz ⟨rfl, hbz⟩)
      | (go_at_call_of 30 (Value.int .i64 p); refine (I3.out _ ?_).mono ?_; (repeat (first | with_reducible assumption | (with_reducible refine WordsAt.new ?_; (first | rfl | simp)) | (with_reducible refine new_cell ?_ ?_ <;> first | rfl | (simp; done)) | with_reducible refine keep_alloc ?_ | with_reducible refine keep_drew ?_ | with_reducible refine Tab.alloc ?_ | with_reducible refine Tab.drew ?_ | with_reducible refine WordsAt.alloc ?_ | with_reducible refine WordsAt.drew ?_ | with_reducible refine keep_cell (by assumption) ?_ | with_reducible refine Tab.below ?_ (by assumption) | with_reducible refine WordsAt.below ?_ (by assumption))); rintro x wz ⟨rfl, hbz⟩))
  go_wp2_with fail
  refine (HK.out _).mono ?_
  rintro x W ⟨rfl, hW⟩
  have d0 : W.cell? ⟨w.heap.size, 0, none⟩ = some (.int .i64 (K : Int)) := by rw [← hW]; (repeat (first | with_reducible assumption | (with_reducible refine WordsAt.new ?_; (first | rfl | simp)) | (with_reducible refine new_cell ?_ ?_ <;> first | rfl | (simp; done)) | with_reducible refine keep_alloc ?_ | with_reducible refine keep_drew ?_ | with_reducible refine Tab.alloc ?_ | with_reducible refine Tab.drew ?_ | with_reducible refine WordsAt.alloc ?_ | with_reducible refine WordsAt.drew ?_ | with_reducible refine keep_cell (by assumption) ?_ | with_reducible refine Tab.below ?_ (by assumption) | with_reducible refine WordsAt.below ?_ (by assumption)))
  have hT2 : Tab W := by rw [← hW]; (repeat (first | with_reducible assumption | (with_reducible refine WordsAt.new ?_; (first | rfl | simp)) | (with_reducible refine new_cell ?_ ?_ <;> first | rfl | (simp; done)) | with_reducible refine keep_alloc ?_ | with_reducible refine keep_drew ?_ | with_reducible refine Tab.alloc ?_ | with_reducible refine Tab.drew ?_ | with_reducible refine WordsAt.alloc ?_ | with_reducible refine WordsAt.drew ?_ | with_reducible refine keep_cell (by assumption) ?_ | with_reducible refine Tab.below ?_ (by assumption) | with_reducible refine WordsAt.below ?_ (by assumption)))
  have hX : WordsAt W wz.heap.size 4 [B, T1, T2, T3] := by rw [← hW]; (repeat (first | with_reducible assumption | (with_reducible refine WordsAt.new ?_; (first | rfl | simp)) | (with_reducible refine new_cell ?_ ?_ <;> first | rfl | (simp; done)) | with_reducible refine keep_alloc ?_ | with_reducible refine keep_drew ?_ | with_reducible refine Tab.alloc ?_ | with_reducible refine Tab.drew ?_ | with_reducible refine WordsAt.alloc ?_ | with_reducible refine WordsAt.drew ?_ | with_reducible refine keep_cell (by assumption) ?_ | with_reducible refine Tab.below ?_ (by assumption) | with_reducible refine WordsAt.below ?_ (by assumption)))
  have hb1 := HB.out
  have HB2 := Lib.hid (show Below w.heap.size w W by rw [← hW]; (repeat (first | with_reducible assumption | with_reducible exact Below.refl _ _ | with_reducible refine bw_alloc ?_ | with_reducible refine bw_drew ?_ | with_reducible refine bw_call (by assumption) ?_)))
  have hXs : w.heap.size ≤ wz.heap.size := by have : Below w.heap.size w wz := (by (repeat (first | with_reducible assumption | with_reducible exact Below.refl _ _ | with_reducible refine bw_alloc ?_ | with_reducible refine bw_drew ?_ | with_reducible refine bw_call (by assumption) ?_))); exact this.size
  clear hb1 hW HB HK cn hT c0 c1 c2 c3
  generalize wz.heap.size = X at *
  go_wp2_with fail
  refine (HU.out _).mono ?_
  rintro x W2 ⟨rfl, hW2⟩
  have hX2 : WordsAt W2 X 4 [B, T1, T2, T3] := by rw [← hW2]; (repeat (first | with_reducible assumption | (with_reducible refine WordsAt.new ?_; (first | rfl | simp)) | (with_reducible refine new_cell ?_ ?_ <;> first | rfl | (simp; done)) | with_reducible refine keep_alloc ?_ | with_reducible refine keep_drew ?_ | with_reducible refine Tab.alloc ?_ | with_reducible refine Tab.drew ?_ | with_reducible refine WordsAt.alloc ?_ | with_reducible refine WordsAt.drew ?_ | with_reducible refine keep_cell (by assumption) ?_ | with_reducible refine Tab.below ?_ (by assumption) | with_reducible refine WordsAt.below ?_ (by assumption)))
  have hgs := hXs
  have HB3 := Lib.hid (show Below w.heap.size w W2 by rw [← hW2]; have hb1 := HB2.out; (repeat (first | with_reducible assumption | with_reducible exact Below.refl _ _ | with_reducible refine bw_alloc ?_ | with_reducible refine bw_drew ?_ | with_reducible refine bw_call (by assumption) ?_)))
  clear hW2 hX HB2 HU hT2 hXs d0
  go_wp2_with fail
  refine (HJ.out _ _ _ hX2).mono ?_
  rintro x W3 ⟨rfl, hb3⟩
  go_wp2
  go_ret
  exact ⟨rfl, bw_call hb3 HB3.out⟩
end Go.Proofs.YtlggbbaigcnpjaaDoor
