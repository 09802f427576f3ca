/-
  THE CONTRACT OF head.Laid: a head's sector.
-/
import Derived.Test.YtpoagfldekppkaaDoorHdRight
import Derived.Test.YtpoagfldekppkaaDoorPgSealD
namespace Go.Proofs.YtpoagfldekppkaaDoor
open Go.RowKit
/-- A head's numbers, eight bytes each; its sector. -/
def hdNums (s e c st m : Int) : List UInt8 := putL 8 [s, e, c, st, m]
def hdStr (s e c st m : Int) : ByteArray := sealStr (hdNums s e c st m) ++ ⟨(List.replicate 20 (0 : UInt8)).toArray⟩
theorem hdOk_parts {s e c st m : Int} (h : hdOk s e c st m = true) : (0 ≤ s ∧ s ≤ 2147483647) ∧ (0 ≤ e ∧ e ≤ 2147483647) ∧ (0 ≤ c ∧ c ≤ 4611686018427387903) ∧ (0 ≤ st ∧ st ≤ 4611686018427387903) ∧ (0 ≤ m ∧ m ≤ 4611686018427387903) := by
  unfold hdOk inHd at h
  simp at h
  obtain ⟨⟨a, b⟩, c, d, e⟩ := h
  exact ⟨a, b, c, d, e⟩
theorem hdNums_flat {s e c st m : Int} (h : hdOk s e c st m = true) : hdNums s e c st m = be 8 s.toNat ++ (be 8 e.toNat ++ (be 8 c.toNat ++ (be 8 st.toNat ++ be 8 m.toNat))) := by
  obtain ⟨⟨a1, a2⟩, ⟨b1, b2⟩, ⟨c1, c2⟩, ⟨d1, d2⟩, ⟨e1, e2⟩⟩ := hdOk_parts h
  unfold hdNums putL
  rw [if_pos]
  · simp
  · unfold fitsL
    simp [fitsN]
    omega
theorem hdNums_len {s e c st m : Int} (h : hdOk s e c st m = true) : (hdNums s e c st m).length = 40 := by
  rw [hdNums_flat h]
  simp only [List.length_append, be_len]
theorem sealStr_size (l : List UInt8) : (sealStr l).size = l.length + 4 := by
  unfold sealStr
  rw [ByteArray.size_append, laid_size]
  simp [ByteArray.size]
theorem hdStr_size {s e c st m : Int} (h : hdOk s e c st m = true) : (hdStr s e c st m).size = 64 := by
  unfold hdStr
  rw [ByteArray.size_append, sealStr_size, hdNums_len h]
  simp [ByteArray.size]
theorem rep20 : (⟨(Lib.repeatL [(0 : UInt8)] 20).toArray⟩ : ByteArray) = ⟨(List.replicate 20 (0 : UInt8)).toArray⟩ := rfl
set_option maxRecDepth 100000 in
set_option maxHeartbeats 1000000 in
theorem hlaid_any (s e c st m : Int) (w : World) (h : hdOk s e c st m = true) (ht : Tab w) :
    Calls Tryd.prog 28 #[.agg #[.int .i64 s, .int .i64 e, .int .i64 c, .int .i64 st, .int .i64 m]] w fun x w' => x = .returned (.string (hdStr s e c st m)) ∧ Below w.heap.size w w' := by
  obtain ⟨⟨a1, a2⟩, ⟨b1, b2⟩, ⟨c1, c2⟩, ⟨d1, d2⟩, ⟨e1, e2⟩⟩ := hdOk_parts h
  have KR := Lib.hid (fun W => hright_any s e c st m W)
  rw [h] at KR
  have KP := Lib.hid (fun W b (hc : IntsAt W (some ⟨b, 0, none⟩) [s, e, c, st, m]) => put_any 8 (some ⟨b, 0, none⟩) [s, e, c, st, m] 5 W (by omega) (by intro n hn; simp at hn; rcases hn with rfl | rfl | rfl | rfl | rfl <;> exact WalkArith.wf_i64 (by omega)) (by simp) hc)
  have hln := hdNums_len h
  have hZ := sealStr_size (hdNums s e c st m)
  rw [hln] at hZ
  have HD : Hid (hdStr s e c st m = sealStr (hdNums s e c st m) ++ ⟨(List.replicate 20 (0 : UInt8)).toArray⟩) := rfl
  have KS := Lib.hid (fun W b (hs : StrsAt W (some ⟨b, 0, none⟩) [⟨(hdNums s e c st m).toArray⟩]) (ht : Tab W) => seal_any (some ⟨b, 0, none⟩) [⟨(hdNums s e c st m).toArray⟩] 1 W (by intro x hx; simp at hx; subst hx; unfold maxLen; simp [ByteArray.size]; omega) hs (by simp) (by simp) (by simp [joined]; omega) ht)
  have hj : joined [(⟨(hdNums s e c st m).toArray⟩ : ByteArray)] = hdNums s e c st m := by simp [joined]
  rw [hj] at KS
  have KRp := Lib.hid (fun W => Tryd.strings_Repeat ⟨#[0]⟩ 20 W (by omega) (by show 1 * _ ≤ _; omega))
  have HT := Lib.hid ht
  change Hid (∀ W b, IntsAt W (some ⟨b, 0, none⟩) [s, e, c, st, m] → Calls Tryd.prog 37 #[.int .i64 8, .slice (some ⟨b, 0, none⟩) 5 5] W fun x w' => x = .returned (.string ⟨(hdNums s e c st m).toArray⟩) ∧ Below W.heap.size W w') at KP
  generalize hdStr s e c st m = HS at *
  generalize sealStr (hdNums s e c st m) = SS at *
  have hZi : (SS.size : Int) = 44 := by omega
  have hcat : ¬ 9223372036854775807 < SS.size + 20 := by omega
  have HZI := Lib.hid hZi
  clear h ht hln hZ hj hZi
  go_enter Tryd.func28, Tryd.ntmps28
  go_wp2_with fail
  refine (KR.out _).mono ?_
  rintro x w1 ⟨rfl, hb1⟩
  have p0 : w1.cell? ⟨w.heap.size, 0, none⟩ = some (.int .i64 s) := keep_h hb1 (new_h rfl rfl)
  have p1 : w1.cell? ⟨w.heap.size, 1, none⟩ = some (.int .i64 e) := keep_h hb1 (new_h rfl rfl)
  have p2 : w1.cell? ⟨w.heap.size, 2, none⟩ = some (.int .i64 c) := keep_h hb1 (new_h rfl rfl)
  have p3 : w1.cell? ⟨w.heap.size, 3, none⟩ = some (.int .i64 st) := keep_h hb1 (new_h rfl rfl)
  have p4 : w1.cell? ⟨w.heap.size, 4, none⟩ = some (.int .i64 m) := keep_h hb1 (new_h rfl rfl)
  have B1 := bwc_h hb1 (bwa_h (Below.refl _ w))
  have HB1 := Lib.hid B1
  clear hb1 B1 KR
  go_wp2_with fail
  refine (KP.out _ _ (.inr ⟨w1.heap.size, 0, rfl, fun i hi => by
    match i, hi with
    | 0, _ => exact new_h rfl rfl
    | 1, _ => exact new_h rfl rfl
    | 2, _ => exact new_h rfl rfl
    | 3, _ => exact new_h rfl rfl
    | 4, _ => exact new_h rfl rfl⟩)).mono ?_
  rintro x w2 ⟨rfl, hb2⟩
  have B2 := bwc_h hb2 (bwa_h HB1.out)
  have HB2 := Lib.hid B2
  clear hb2 B2 KP p0 p1 p2 p3 p4 HB1
  go_wp2_with fail
  refine (KS.out _ _ (.inr ⟨w2.heap.size, 0, rfl, fun i hi => by
    match i, hi with
    | 0, _ => exact new_h rfl rfl⟩) ((HT.out.below HB2.out).below ((Below.refl _ _).alloc (Nat.le_refl _) _))).mono ?_
  rintro x w3 ⟨rfl, hb3⟩
  have B3 := bwc_h hb3 (bwa_h HB2.out)
  have HB3 := Lib.hid B3
  clear hb3 B3 KS HB2 HT
  have hZi := HZI.out
  go_wp2_with fail
  refine (KRp.out _).mono ?_
  rintro x w4 ⟨rfl, hb4⟩
  have B4 := bwc_h hb4 HB3.out
  have hb44 := Lib.hid B4
  clear hb4 B4 KRp HB3 hZi
  have hR : (⟨(Lib.repeatL [(0 : UInt8)] 20).toArray⟩ : ByteArray).size = 20 := rfl
  go_wp2
  go_ret
  exact ⟨by rw [HD.out]; rfl, hb44.out⟩
set_option maxRecDepth 100000 in
theorem hlaid_bad (s e c st m : Int) (w : World) (h : hdOk s e c st m = false) :
    Calls Tryd.prog 28 #[.agg #[.int .i64 s, .int .i64 e, .int .i64 c, .int .i64 st, .int .i64 m]] w fun x w' => x = .returned (.string ⟨#[]⟩) ∧ Below w.heap.size w w' := by
  have KR := Lib.hid (fun W => hright_any s e c st m W)
  rw [h] at KR
  clear h
  go_enter Tryd.func28, Tryd.ntmps28
  go_wp2_with fail
  refine (KR.out _).mono ?_
  rintro x w1 ⟨rfl, hb1⟩
  have B1 := bwc_h hb1 (bwa_h (Below.refl _ w))
  clear hb1
  go_wp2
  go_ret
  exact ⟨rfl, B1⟩
end Go.Proofs.YtpoagfldekppkaaDoor
