/-
  THE CONTRACTS OF quadrigaref03.Right AND Make.
-/
import Derived.Test.YtpfgdmjgeelobaaDoorFrMakeYes
import Derived.Test.YtpfgdmjgeelobaaDoorNRefPut
import Derived.Test.YtpfgdmjgeelobaaDoorNRefTake
namespace Go.Proofs.YtpfgdmjgeelobaaDoor
open Go.RowKit Crc

set_option maxHeartbeats 1000000 in
theorem refRight_any (e a g : Int) (d : ByteArray) (w : World) (hd : d.size ≤ 140737488355328) :
    Calls Tryd.prog 9 #[.agg #[.int .i64 e, .int .i64 a, .int .i64 g, .string d]] w fun x w' => x = .returned (.bool (frRight e a g d.size)) ∧ Below w.heap.size w w' := by
  cases hr : frRight e a g d.size
  · have hr := Lib.hid hr
    go_enter Tryd.func9, Tryd.ntmps9
    go_wp2
    all_goals go_ret
    all_goals exact ⟨ret_bool (by first | rfl | (have h := hr.out; unfold frRight at h; simp at h ⊢; omega)), (Below.refl _ _).alloc (Nat.le_refl _) _⟩
  · obtain ⟨⟨h1, h2⟩, ⟨h3, h4⟩, ⟨h5, h6⟩, h7⟩ := frRight_parts hr
    have h2' : e < 2147483648 := by omega
    have h4' : a < 4611686018427387904 := by omega
    have h6' : g < 4611686018427387904 := by omega
    have h7' : (d.size : Int) ≤ 200 := by omega
    clear hr
    go_enter Tryd.func9, Tryd.ntmps9
    go_wp2
    go_ret
    exact ⟨rfl, (Below.refl _ _).alloc (Nat.le_refl _) _⟩

theorem frStr_cat (e a g : Int) (d : ByteArray) : (((((ByteArray.mk (be 1 d.size).toArray ++ ⟨(be 4 e.toNat).toArray⟩) ++ ⟨(be 8 a.toNat).toArray⟩) ++ ⟨(be 8 g.toNat).toArray⟩) ++ d) : ByteArray) = ⟨(frBody e a g d).toArray⟩ := by
  apply ByteArray.ext
  apply Array.toList_inj.1
  unfold frBody
  simp [ByteArray.data_append]

set_option maxHeartbeats 2000000 in
theorem refMake_any (e a g : Int) (d : ByteArray) (w : World) (he : (Lit.int .i64 e).wf = true) (ha : (Lit.int .i64 a).wf = true) (hg : (Lit.int .i64 g).wf = true) (hd : d.size ≤ 100000) :
    Calls Tryd.prog 10 #[.agg #[.int .i64 e, .int .i64 a, .int .i64 g, .string d]] w fun x w' => x = .returned (.string (frStr e a g d)) ∧ Below w.heap.size w w' := by
  have H1 := Lib.hid (fun W => refLay_any 1 (d.size : Int) W (by omega) (by omega) (WalkArith.wf_i64 (by omega)))
  rw [Int.toNat_natCast] at H1
  have H4 := Lib.hid (fun W => refLay_any 4 e W (by omega) (by omega) he)
  have H8 := Lib.hid (fun W => refLay_any 8 a W (by omega) (by omega) ha)
  have H9 := Lib.hid (fun W => refLay_any 8 g W (by omega) (by omega) hg)
  rw [show ((1 : Nat) : Int) = (1 : Int) from rfl] at H1
  rw [show ((4 : Nat) : Int) = (4 : Int) from rfl] at H4
  rw [show ((8 : Nat) : Int) = (8 : Int) from rfl] at H8 H9
  have hC := frStr_cat e a g d
  have hL : frStr e a g d = ⟨(frBody e a g d).toArray⟩ ++ laidStr (frBody e a g d) := rfl
  have hlen := frBody_len e a g d
  rw [hL]
  have z1 : (ByteArray.mk (be 1 d.size).toArray).size ≤ 8 := by show (be 1 d.size).toArray.size ≤ 8; simp [be_len]
  have z4 : (ByteArray.mk (be 4 e.toNat).toArray).size ≤ 8 := by show (be 4 e.toNat).toArray.size ≤ 8; simp [be_len]
  have z8 : (ByteArray.mk (be 8 a.toNat).toArray).size ≤ 8 := by show (be 8 a.toNat).toArray.size ≤ 8; simp [be_len]
  have z9 : (ByteArray.mk (be 8 g.toNat).toArray).size ≤ 8 := by show (be 8 g.toNat).toArray.size ≤ 8; simp [be_len]
  have HLd := Lib.hid (fun W => refLaid_any ⟨(frBody e a g d).toArray⟩ W (by show (frBody e a g d).toArray.size ≤ _; simp; unfold maxLen; omega))
  have zB : (ByteArray.mk (frBody e a g d).toArray).size ≤ 200000 := by show (frBody e a g d).toArray.size ≤ _; simp; omega
  have zL := laid_size (frBody e a g d)
  clear hL hlen he ha hg
  rw [show (ByteArray.mk (frBody e a g d).toArray).data.toList = frBody e a g d from by simp] at HLd
  generalize (⟨(frBody e a g d).toArray⟩ : ByteArray) = B at *
  generalize laidStr (frBody e a g d) = L at *
  generalize (⟨(be 1 d.size).toArray⟩ : ByteArray) = P1 at *
  generalize (⟨(be 4 e.toNat).toArray⟩ : ByteArray) = P4 at *
  generalize (⟨(be 8 a.toNat).toArray⟩ : ByteArray) = P8 at *
  generalize (⟨(be 8 g.toNat).toArray⟩ : ByteArray) = P9 at *
  have HC := Lib.hid hC; clear hC
  have s1 : ¬ 9223372036854775807 < P1.size + P4.size := by omega
  have s2 : ¬ 9223372036854775807 < P1.size + P4.size + P8.size := by omega
  have s3 : ¬ 9223372036854775807 < P1.size + P4.size + P8.size + P9.size := by omega
  have s4 : ¬ 9223372036854775807 < P1.size + P4.size + P8.size + P9.size + d.size := by omega
  have s5 : ¬ 9223372036854775807 < B.size + L.size := by omega
  clear z1 z4 z8 z9 zB zL
  go_enter Tryd.func10, Tryd.ntmps10
  go_wp2_with fail
  go_region_held3 (fun w' => w'.cell? ⟨w.heap.size, 0, none⟩ = some (.int .i64 e) ∧ w'.cell? ⟨w.heap.size, 1, none⟩ = some (.int .i64 a) ∧ w'.cell? ⟨w.heap.size, 2, none⟩ = some (.int .i64 g) ∧ w'.cell? ⟨w.heap.size, 3, none⟩ = some (.string d))
    ((refine ⟨?_, ?_, ?_, ?_⟩ <;> (repeat (first | (with_reducible refine new_cell ?_ ?_ <;> first | rfl | (simp; done)) | with_reducible assumption | with_reducible refine keep_alloc ?_ | with_reducible refine keep_drew ?_ | with_reducible refine keep_cell (by assumption) ?_))))
    (first
      | (go_at_call_of 22 (Value.int .i64 1); with_reducible refine (H1.out _).mono ?_; rintro x w9 ⟨rfl, hb9⟩)
      | (go_at_call_of 22 (Value.int .i64 4); with_reducible refine (H4.out _).mono ?_; rintro x w9 ⟨rfl, hb9⟩)
      | (go_at_call_of 22 (Value.int .i64 8); with_reducible refine (H8.out _).mono ?_; rintro x w9 ⟨rfl, hb9⟩)
      | (go_at_call_of 22 (Value.int .i64 8); with_reducible refine (H9.out _).mono ?_; rintro x w9 ⟨rfl, hb9⟩))
  rw [HC.out]
  go_wp2_with fail
  refine (HLd.out _).mono ?_
  rintro x w10 ⟨rfl, hb10⟩
  go_wp2
  go_ret
  refine ⟨rfl, ?_⟩
  (repeat (first | exact Below.refl _ _ | with_reducible refine bw_alloc ?_ | with_reducible refine bw_drew ?_ | with_reducible refine bw_call (by assumption) ?_))
end Go.Proofs.YtpfgdmjgeelobaaDoor
