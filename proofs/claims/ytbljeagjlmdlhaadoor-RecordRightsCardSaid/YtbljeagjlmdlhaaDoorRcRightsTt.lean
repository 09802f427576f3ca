/-
  THE WALK OF quadrigalaw04.RecordRights, where the first record is right and its value ahead is one.
-/
import Derived.Test.YtbljeagjlmdlhaaDoorRcRights
namespace Go.Proofs.YtbljeagjlmdlhaaDoor
open Go.RowKit

set_option maxRecDepth 100000 in
set_option maxHeartbeats 8000000 in
theorem rights_tt (ak ag ax ap aq au : Int) (akey asb asa : ByteArray) (ahb aha : Bool) (bk bg bt bp bq bu : Int) (bkey bsb bsa : ByteArray) (bhb bha : Bool) (key vs : ByteArray) (vh : Bool) (w : World) (hn : NameAt w) (hGa : rcGreat akey asb asa = false) (hGb : rcGreat bkey bsb bsa = false) (hk : (key.size : Int) ≤ 100) (hv : (vs.size : Int) ≤ 100) (hX : rcOk ak ag ax ap aq akey ahb asb aha asa au = true) (hV : vlOk ahb asb = true) :
    Calls Tryd.prog 3 #[.agg #[.int .i64 ak, .int .i64 ag, .int .i64 ax, .int .i64 ap, .int .i64 aq, .string akey, .bool ahb, .string asb, .bool aha, .string asa, .int .i64 au], .agg #[.int .i64 bk, .int .i64 bg, .int .i64 bt, .int .i64 bp, .int .i64 bq, .string bkey, .bool bhb, .string bsb, .bool bha, .string bsa, .int .i64 bu], .string key, .agg #[.bool vh, .string vs]] w fun e w' => e = .returned (.bool true) ∧ Below w.heap.size w w' := by
  have KA := Lib.hid (fun W (hW : Below w.heap.size w W) => awake_rc W (hn.below hW))
  have KGa := Lib.hid (fun W => great_rc ak ag ax ap aq au akey asb asa ahb aha W)
  have KGb := Lib.hid (fun W => great_rc bk bg bt bp bq bu bkey bsb bsa bhb bha W)
  have RA := Lib.hid (fun W => refRight_any ak ag ax ap aq au akey asb asa ahb aha W)
  have RB := Lib.hid (fun W => refRight_any bk bg bt bp bq bu bkey bsb bsa bhb bha W)
  have Q1 := Lib.hid (right_at ak ag ax ap aq au akey asb asa ahb aha)
  have Q2 := Lib.hid (right_two ak ag ax ap aq au akey asb asa ahb aha bk bg bt bp bq bu bkey bsb bsa bhb bha)
  have Q0 := Lib.hid (fun W => right_none 0 W)
  have Y1 := Lib.hid (fun G W h => key_one key W G h)
  have Y2 := Lib.hid (key_two key)
  have YR := Lib.hid (fun W => refKey_any key W)
  have V1 := Lib.hid (value_one vh vs)
  have V2 := Lib.hid (fun G W h0 h1 h2 h3 => value_two ahb asb vh vs W G h0 h1 h2 h3)
  have VR := Lib.hid (fun W => refValue_any vh vs W)
  have VB := Lib.hid (fun W => refValue_any ahb asb W)
  have HH := Lib.hid (fun W => has_any key W)
  rw [hX] at RA Q1 Q2
  rw [hV] at V2 VB
  rw [hGa] at KGa
  rw [hGb] at KGb
  simp only [Bool.true_and] at Q2
  simp only [Bool.true_and] at V2
  generalize rcOk bk bg bt bp bq bkey bhb bsb bha bsa bu = y at RB Q2
  generalize kyOk key = ky at Y1 Y2 YR
  generalize vlOk vh vs = vv at V1 V2 VR
  have ey : (y == y) = true := beq_self_eq_true y
  have ek : (ky == ky) = true := beq_self_eq_true ky
  have ev : (vv == vv) = true := beq_self_eq_true vv
  clear hX hV hGa hGb hn
  go_enter Tryd.func3, Tryd.ntmps3
  go_wp2_with fail
  refine (KGa.out _).mono ?_
  rintro x w1 ⟨rfl, hb1⟩
  have hw1 : Below w.heap.size w w1 := bw_call hb1 (bw_alloc (bw_alloc (bw_alloc (Below.refl _ _))))
  have a0 : w1.cell? ⟨w.heap.size, 0, none⟩ = some (.int .i64 ak) := keep_cell hb1 (keep_alloc (keep_alloc (new_cell rfl rfl)))
  have a1 : w1.cell? ⟨w.heap.size, 1, none⟩ = some (.int .i64 ag) := keep_cell hb1 (keep_alloc (keep_alloc (new_cell rfl rfl)))
  have a2 : w1.cell? ⟨w.heap.size, 2, none⟩ = some (.int .i64 ax) := keep_cell hb1 (keep_alloc (keep_alloc (new_cell rfl rfl)))
  have a3 : w1.cell? ⟨w.heap.size, 3, none⟩ = some (.int .i64 ap) := keep_cell hb1 (keep_alloc (keep_alloc (new_cell rfl rfl)))
  have a4 : w1.cell? ⟨w.heap.size, 4, none⟩ = some (.int .i64 aq) := keep_cell hb1 (keep_alloc (keep_alloc (new_cell rfl rfl)))
  have a5 : w1.cell? ⟨w.heap.size, 5, none⟩ = some (.string akey) := keep_cell hb1 (keep_alloc (keep_alloc (new_cell rfl rfl)))
  have a6 : w1.cell? ⟨w.heap.size, 6, none⟩ = some (.bool ahb) := keep_cell hb1 (keep_alloc (keep_alloc (new_cell rfl rfl)))
  have a7 : w1.cell? ⟨w.heap.size, 7, none⟩ = some (.string asb) := keep_cell hb1 (keep_alloc (keep_alloc (new_cell rfl rfl)))
  have a8 : w1.cell? ⟨w.heap.size, 8, none⟩ = some (.bool aha) := keep_cell hb1 (keep_alloc (keep_alloc (new_cell rfl rfl)))
  have a9 : w1.cell? ⟨w.heap.size, 9, none⟩ = some (.string asa) := keep_cell hb1 (keep_alloc (keep_alloc (new_cell rfl rfl)))
  have a10 : w1.cell? ⟨w.heap.size, 10, none⟩ = some (.int .i64 au) := keep_cell hb1 (keep_alloc (keep_alloc (new_cell rfl rfl)))
  have b0 : w1.cell? ⟨w.heap.size + 1, 0, none⟩ = some (.int .i64 bk) := keep_cell hb1 (keep_alloc (new_cell (by rw [World.size_alloc]) rfl))
  have b1 : w1.cell? ⟨w.heap.size + 1, 1, none⟩ = some (.int .i64 bg) := keep_cell hb1 (keep_alloc (new_cell (by rw [World.size_alloc]) rfl))
  have b2 : w1.cell? ⟨w.heap.size + 1, 2, none⟩ = some (.int .i64 bt) := keep_cell hb1 (keep_alloc (new_cell (by rw [World.size_alloc]) rfl))
  have b3 : w1.cell? ⟨w.heap.size + 1, 3, none⟩ = some (.int .i64 bp) := keep_cell hb1 (keep_alloc (new_cell (by rw [World.size_alloc]) rfl))
  have b4 : w1.cell? ⟨w.heap.size + 1, 4, none⟩ = some (.int .i64 bq) := keep_cell hb1 (keep_alloc (new_cell (by rw [World.size_alloc]) rfl))
  have b5 : w1.cell? ⟨w.heap.size + 1, 5, none⟩ = some (.string bkey) := keep_cell hb1 (keep_alloc (new_cell (by rw [World.size_alloc]) rfl))
  have b6 : w1.cell? ⟨w.heap.size + 1, 6, none⟩ = some (.bool bhb) := keep_cell hb1 (keep_alloc (new_cell (by rw [World.size_alloc]) rfl))
  have b7 : w1.cell? ⟨w.heap.size + 1, 7, none⟩ = some (.string bsb) := keep_cell hb1 (keep_alloc (new_cell (by rw [World.size_alloc]) rfl))
  have b8 : w1.cell? ⟨w.heap.size + 1, 8, none⟩ = some (.bool bha) := keep_cell hb1 (keep_alloc (new_cell (by rw [World.size_alloc]) rfl))
  have b9 : w1.cell? ⟨w.heap.size + 1, 9, none⟩ = some (.string bsa) := keep_cell hb1 (keep_alloc (new_cell (by rw [World.size_alloc]) rfl))
  have b10 : w1.cell? ⟨w.heap.size + 1, 10, none⟩ = some (.int .i64 bu) := keep_cell hb1 (keep_alloc (new_cell (by rw [World.size_alloc]) rfl))
  have v0 : w1.cell? ⟨w.heap.size + 1 + 1, 0, none⟩ = some (.bool vh) := keep_cell hb1 (new_cell (by rw [World.size_alloc, World.size_alloc]) rfl)
  have v1 : w1.cell? ⟨w.heap.size + 1 + 1, 1, none⟩ = some (.string vs) := keep_cell hb1 (new_cell (by rw [World.size_alloc, World.size_alloc]) rfl)
  clear hb1 KGa
  go_wp2_with fail
  refine (KGb.out _).mono ?_
  rintro x w2 ⟨rfl, hb2⟩
  have a0 : w2.cell? ⟨w.heap.size, 0, none⟩ = some (.int .i64 ak) := keep_cell hb2 a0
  have a1 : w2.cell? ⟨w.heap.size, 1, none⟩ = some (.int .i64 ag) := keep_cell hb2 a1
  have a2 : w2.cell? ⟨w.heap.size, 2, none⟩ = some (.int .i64 ax) := keep_cell hb2 a2
  have a3 : w2.cell? ⟨w.heap.size, 3, none⟩ = some (.int .i64 ap) := keep_cell hb2 a3
  have a4 : w2.cell? ⟨w.heap.size, 4, none⟩ = some (.int .i64 aq) := keep_cell hb2 a4
  have a5 : w2.cell? ⟨w.heap.size, 5, none⟩ = some (.string akey) := keep_cell hb2 a5
  have a6 : w2.cell? ⟨w.heap.size, 6, none⟩ = some (.bool ahb) := keep_cell hb2 a6
  have a7 : w2.cell? ⟨w.heap.size, 7, none⟩ = some (.string asb) := keep_cell hb2 a7
  have a8 : w2.cell? ⟨w.heap.size, 8, none⟩ = some (.bool aha) := keep_cell hb2 a8
  have a9 : w2.cell? ⟨w.heap.size, 9, none⟩ = some (.string asa) := keep_cell hb2 a9
  have a10 : w2.cell? ⟨w.heap.size, 10, none⟩ = some (.int .i64 au) := keep_cell hb2 a10
  have b0 : w2.cell? ⟨w.heap.size + 1, 0, none⟩ = some (.int .i64 bk) := keep_cell hb2 b0
  have b1 : w2.cell? ⟨w.heap.size + 1, 1, none⟩ = some (.int .i64 bg) := keep_cell hb2 b1
  have b2 : w2.cell? ⟨w.heap.size + 1, 2, none⟩ = some (.int .i64 bt) := keep_cell hb2 b2
  have b3 : w2.cell? ⟨w.heap.size + 1, 3, none⟩ = some (.int .i64 bp) := keep_cell hb2 b3
  have b4 : w2.cell? ⟨w.heap.size + 1, 4, none⟩ = some (.int .i64 bq) := keep_cell hb2 b4
  have b5 : w2.cell? ⟨w.heap.size + 1, 5, none⟩ = some (.string bkey) := keep_cell hb2 b5
  have b6 : w2.cell? ⟨w.heap.size + 1, 6, none⟩ = some (.bool bhb) := keep_cell hb2 b6
  have b7 : w2.cell? ⟨w.heap.size + 1, 7, none⟩ = some (.string bsb) := keep_cell hb2 b7
  have b8 : w2.cell? ⟨w.heap.size + 1, 8, none⟩ = some (.bool bha) := keep_cell hb2 b8
  have b9 : w2.cell? ⟨w.heap.size + 1, 9, none⟩ = some (.string bsa) := keep_cell hb2 b9
  have b10 : w2.cell? ⟨w.heap.size + 1, 10, none⟩ = some (.int .i64 bu) := keep_cell hb2 b10
  have v0 : w2.cell? ⟨w.heap.size + 1 + 1, 0, none⟩ = some (.bool vh) := keep_cell hb2 v0
  have v1 : w2.cell? ⟨w.heap.size + 1 + 1, 1, none⟩ = some (.string vs) := keep_cell hb2 v1
  have hw2 : Below w.heap.size w w2 := bw_call hb2 hw1
  clear hb2 hw1 KGb
  go_wp2_with fail
  go_region_held3 (fun w' => w'.cell? ⟨w.heap.size, 0, none⟩ = some (.int .i64 ak) ∧ w'.cell? ⟨w.heap.size, 1, none⟩ = some (.int .i64 ag) ∧ w'.cell? ⟨w.heap.size, 2, none⟩ = some (.int .i64 ax) ∧ w'.cell? ⟨w.heap.size, 3, none⟩ = some (.int .i64 ap) ∧ w'.cell? ⟨w.heap.size, 4, none⟩ = some (.int .i64 aq) ∧ w'.cell? ⟨w.heap.size, 5, none⟩ = some (.string akey) ∧ w'.cell? ⟨w.heap.size, 6, none⟩ = some (.bool ahb) ∧ w'.cell? ⟨w.heap.size, 7, none⟩ = some (.string asb) ∧ w'.cell? ⟨w.heap.size, 8, none⟩ = some (.bool aha) ∧ w'.cell? ⟨w.heap.size, 9, none⟩ = some (.string asa) ∧ w'.cell? ⟨w.heap.size, 10, none⟩ = some (.int .i64 au) ∧ w'.cell? ⟨w.heap.size + 1, 0, none⟩ = some (.int .i64 bk) ∧ w'.cell? ⟨w.heap.size + 1, 1, none⟩ = some (.int .i64 bg) ∧ w'.cell? ⟨w.heap.size + 1, 2, none⟩ = some (.int .i64 bt) ∧ w'.cell? ⟨w.heap.size + 1, 3, none⟩ = some (.int .i64 bp) ∧ w'.cell? ⟨w.heap.size + 1, 4, none⟩ = some (.int .i64 bq) ∧ w'.cell? ⟨w.heap.size + 1, 5, none⟩ = some (.string bkey) ∧ w'.cell? ⟨w.heap.size + 1, 6, none⟩ = some (.bool bhb) ∧ w'.cell? ⟨w.heap.size + 1, 7, none⟩ = some (.string bsb) ∧ w'.cell? ⟨w.heap.size + 1, 8, none⟩ = some (.bool bha) ∧ w'.cell? ⟨w.heap.size + 1, 9, none⟩ = some (.string bsa) ∧ w'.cell? ⟨w.heap.size + 1, 10, none⟩ = some (.int .i64 bu) ∧ w'.cell? ⟨w.heap.size + 1 + 1, 0, none⟩ = some (.bool vh) ∧ w'.cell? ⟨w.heap.size + 1 + 1, 1, none⟩ = some (.string vs))
    ((refine ⟨?_, ?_, ?_, ?_, ?_, ?_, ?_, ?_, ?_, ?_, ?_, ?_, ?_, ?_, ?_, ?_, ?_, ?_, ?_, ?_, ?_, ?_, ?_, ?_⟩ <;> (repeat (first | with_reducible assumption | with_reducible refine keep_alloc ?_ | with_reducible refine keep_drew ?_ | with_reducible refine keep_cell (by assumption) ?_))))
    (first
      | (go_at_call 10; with_reducible refine (RA.out _).mono ?_; rintro x wa ⟨rfl, hwa⟩)
      | (go_at_call 10; with_reducible refine (RB.out _).mono ?_; rintro x wb ⟨rfl, hwb⟩))
  go_wp2_with fail
  simp only [List.append_eq, List.cons_append, List.nil_append]
  go_region_held3 (fun w' => w'.cell? ⟨w.heap.size, 0, none⟩ = some (.int .i64 ak) ∧ w'.cell? ⟨w.heap.size, 1, none⟩ = some (.int .i64 ag) ∧ w'.cell? ⟨w.heap.size, 2, none⟩ = some (.int .i64 ax) ∧ w'.cell? ⟨w.heap.size, 3, none⟩ = some (.int .i64 ap) ∧ w'.cell? ⟨w.heap.size, 4, none⟩ = some (.int .i64 aq) ∧ w'.cell? ⟨w.heap.size, 5, none⟩ = some (.string akey) ∧ w'.cell? ⟨w.heap.size, 6, none⟩ = some (.bool ahb) ∧ w'.cell? ⟨w.heap.size, 7, none⟩ = some (.string asb) ∧ w'.cell? ⟨w.heap.size, 8, none⟩ = some (.bool aha) ∧ w'.cell? ⟨w.heap.size, 9, none⟩ = some (.string asa) ∧ w'.cell? ⟨w.heap.size, 10, none⟩ = some (.int .i64 au) ∧ w'.cell? ⟨w.heap.size + 1, 0, none⟩ = some (.int .i64 bk) ∧ w'.cell? ⟨w.heap.size + 1, 1, none⟩ = some (.int .i64 bg) ∧ w'.cell? ⟨w.heap.size + 1, 2, none⟩ = some (.int .i64 bt) ∧ w'.cell? ⟨w.heap.size + 1, 3, none⟩ = some (.int .i64 bp) ∧ w'.cell? ⟨w.heap.size + 1, 4, none⟩ = some (.int .i64 bq) ∧ w'.cell? ⟨w.heap.size + 1, 5, none⟩ = some (.string bkey) ∧ w'.cell? ⟨w.heap.size + 1, 6, none⟩ = some (.bool bhb) ∧ w'.cell? ⟨w.heap.size + 1, 7, none⟩ = some (.string bsb) ∧ w'.cell? ⟨w.heap.size + 1, 8, none⟩ = some (.bool bha) ∧ w'.cell? ⟨w.heap.size + 1, 9, none⟩ = some (.string bsa) ∧ w'.cell? ⟨w.heap.size + 1, 10, none⟩ = some (.int .i64 bu) ∧ w'.cell? ⟨w.heap.size + 1 + 1, 0, none⟩ = some (.bool vh) ∧ w'.cell? ⟨w.heap.size + 1 + 1, 1, none⟩ = some (.string vs))
    ((refine ⟨?_, ?_, ?_, ?_, ?_, ?_, ?_, ?_, ?_, ?_, ?_, ?_, ?_, ?_, ?_, ?_, ?_, ?_, ?_, ?_, ?_, ?_, ?_, ?_⟩ <;> (repeat (first | with_reducible assumption | with_reducible refine keep_alloc ?_ | with_reducible refine keep_drew ?_ | with_reducible refine keep_cell (by assumption) ?_))))
    (first
      | (go_at_call 11; with_reducible refine (Q0.out _).mono ?_; rintro x wc ⟨rfl, hwc⟩)
      | (go_at_call 11; with_reducible refine (Q1.out _ _ ?_).mono ?_; (focus (unfold RcIn; (refine ⟨?_, ?_, ?_, ?_, ?_, ?_, ?_, ?_, ?_, ?_, ?_⟩ <;> (repeat (first | (with_reducible refine new_cell ?_ ?_ <;> first | rfl | (simp; done)) | with_reducible refine keep_alloc ?_ | with_reducible refine keep_drew ?_ | with_reducible refine keep_cell (by assumption) ?_))); done)); rintro x wd ⟨rfl, hwd⟩)
      | (go_at_call 11; with_reducible refine (Q2.out _ _ ?_).mono ?_; (focus ((refine ⟨?_, ?_, ?_, ?_, ?_, ?_, ?_, ?_, ?_, ?_, ?_, ?_, ?_, ?_, ?_, ?_, ?_, ?_, ?_, ?_, ?_, ?_⟩ <;> (repeat (first | (with_reducible refine new_cell ?_ ?_ <;> first | rfl | (simp; done)) | with_reducible refine keep_alloc ?_ | with_reducible refine keep_drew ?_ | with_reducible refine keep_cell (by assumption) ?_))); done)); rintro x we ⟨rfl, hwe⟩)
      | (go_at_call 12; with_reducible refine (Y1.out _ _ ?_).mono ?_; (focus ((repeat (first | (with_reducible refine new_cell ?_ ?_ <;> first | rfl | (simp; done)) | with_reducible refine keep_alloc ?_ | with_reducible refine keep_drew ?_ | with_reducible refine keep_cell (by assumption) ?_)); done)); rintro x wf ⟨rfl, hwf⟩)
      | (go_at_call 12; with_reducible refine (Y2.out _ _ ?_ ?_).mono ?_; (focus ((repeat (first | (with_reducible refine new_cell ?_ ?_ <;> first | rfl | (simp; done)) | with_reducible refine keep_alloc ?_ | with_reducible refine keep_drew ?_ | with_reducible refine keep_cell (by assumption) ?_)); done)); (focus ((repeat (first | (with_reducible refine new_cell ?_ ?_ <;> first | rfl | (simp; done)) | with_reducible refine keep_alloc ?_ | with_reducible refine keep_drew ?_ | with_reducible refine keep_cell (by assumption) ?_)); done)); rintro x wg ⟨rfl, hwg⟩)
      | (go_at_call 13; with_reducible refine (YR.out _).mono ?_; rintro x wh ⟨rfl, rfl⟩)
      | (go_at_call 14; with_reducible refine (V1.out _ _ ?_ ?_).mono ?_; (focus ((repeat (first | (with_reducible refine new_cell ?_ ?_ <;> first | rfl | (simp; done)) | with_reducible refine keep_alloc ?_ | with_reducible refine keep_drew ?_ | with_reducible refine keep_cell (by assumption) ?_)); done)); (focus ((repeat (first | (with_reducible refine new_cell ?_ ?_ <;> first | rfl | (simp; done)) | with_reducible refine keep_alloc ?_ | with_reducible refine keep_drew ?_ | with_reducible refine keep_cell (by assumption) ?_)); done)); rintro x wi ⟨rfl, hwi⟩)
      | (go_at_call 14; with_reducible refine (V2.out _ _ ?_ ?_ ?_ ?_).mono ?_; (focus ((repeat (first | (with_reducible refine new_cell ?_ ?_ <;> first | rfl | (simp; done)) | with_reducible refine keep_alloc ?_ | with_reducible refine keep_drew ?_ | with_reducible refine keep_cell (by assumption) ?_)); done)); (focus ((repeat (first | (with_reducible refine new_cell ?_ ?_ <;> first | rfl | (simp; done)) | with_reducible refine keep_alloc ?_ | with_reducible refine keep_drew ?_ | with_reducible refine keep_cell (by assumption) ?_)); done)); (focus ((repeat (first | (with_reducible refine new_cell ?_ ?_ <;> first | rfl | (simp; done)) | with_reducible refine keep_alloc ?_ | with_reducible refine keep_drew ?_ | with_reducible refine keep_cell (by assumption) ?_)); done)); (focus ((repeat (first | (with_reducible refine new_cell ?_ ?_ <;> first | rfl | (simp; done)) | with_reducible refine keep_alloc ?_ | with_reducible refine keep_drew ?_ | with_reducible refine keep_cell (by assumption) ?_)); done)); rintro x wj ⟨rfl, hwj⟩)
      | (go_at_call 15; with_reducible refine (VR.out _).mono ?_; rintro x wk ⟨rfl, hwk⟩)
      | (go_at_call 15; with_reducible refine (VB.out _).mono ?_; rintro x wl ⟨rfl, hwl⟩)
      | (go_at_call 16; with_reducible refine (HH.out _).mono ?_; rintro x wm ⟨rfl, hwm⟩)
      | (go_at_call 9; with_reducible refine (KA.out _ ?_).mono ?_; (focus ((repeat (first | with_reducible assumption | with_reducible exact Below.refl _ _ | with_reducible refine bw_alloc ?_ | with_reducible refine bw_drew ?_ | with_reducible refine bw_call (by assumption) ?_)); done)); rintro x wn ⟨rfl, hwn⟩))
  all_goals go_wp2
  all_goals go_ret
  all_goals refine ⟨rfl, ?_⟩
  all_goals (repeat (first | with_reducible assumption | with_reducible exact Below.refl _ _ | with_reducible refine bw_alloc ?_ | with_reducible refine bw_drew ?_ | with_reducible refine bw_call (by assumption) ?_))
end Go.Proofs.YtbljeagjlmdlhaaDoor
