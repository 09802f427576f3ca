/-
  blank, awake OF law 05; what a nil device, and a nil power, answer.
-/
import Derived.Test.YtobgopiadfinbaaDvCrash
import Derived.Test.YtobgopiadfinbaaDvNew
namespace Go.Proofs.Ytobgopiadfinbaa
open Go.RowKit
theorem run_blank (W : World) : (Instr.makeSlice 70 (.int .i64 64) (.int .i64 64)).run Try.prog W = .ok (.slice (some ⟨W.heap.size, 0, none⟩) 64 64) (W.alloc (.cells (secC blank64).toArray 5)) := by
  have hinfo : (Try.prog.info? 5).map (fun i => (i.zero, i.size, i.bytes)) = some (some (.int .u8 0), 1, 1) := by kernel_rfl
  obtain ⟨i, hi, hzz⟩ := Option.map_eq_some_iff.1 hinfo
  simp only [Prod.mk.injEq] at hzz
  obtain ⟨hz, hs, hb⟩ := hzz
  have hr := run_make (P := Try.prog) W 70 5 i (.int .u8 0) Try.underlying70 hi hz .i64 .i64 64 64 (by omega) (Int.le_refl _) (by rw [hb]; omega) (by omega)
  have hm : madeCells (Value.int .u8 0).cells ((64 : Int).toNat * i.size) = (secC blank64).toArray := by rw [hs]; kernel_rfl
  rw [hm] at hr
  exact hr
theorem conv_blank (W : World) : (convert 70 9 (.slice (some ⟨W.heap.size, 0, none⟩) 64 64)).run Try.prog (W.alloc (.cells (secC blank64).toArray 5)) = .ok (.string (txt blank64)) (W.alloc (.cells (secC blank64).toArray 5)) :=
  conv_sec (row_range (T := 5) (hp_new rfl)) blank64_len
theorem blank_any (W : World) : Calls Try.prog 16 #[] W fun e w' => e = .returned (.string (txt blank64)) ∧ Below W.heap.size W w' := by
  have h1 := run_blank W
  have h2 := conv_blank W
  have hb : Below W.heap.size W (W.alloc (.cells (secC blank64).toArray 5)) := (Below.refl _ _).alloc (Nat.le_refl _) _
  have HB := Lib.hid hb; clear hb
  generalize txt blank64 = T at *
  generalize W.alloc (.cells (secC blank64).toArray 5) = W1 at *
  go_enter Try.func16, Try.ntmps16
  go_wp2
  go_ret
  exact ⟨rfl, HB.out⟩
theorem one_str (w : World) (s : ByteArray) (T : TypeId) : StrsAt (w.alloc (.cells #[.string s] T)) (some ⟨w.heap.size, 0, none⟩) [s] :=
  .inr ⟨w.heap.size, 0, rfl, fun i hi => by
    match i, hi with
    | 0, _ => exact new_cell rfl rfl⟩
theorem new_dev (n : Nat) (w : World) (h1 : 1 ≤ n) (h2 : n ≤ 4096) : Calls Try.prog 6 #[.pointer none, .int .i64 (n : Int)] w fun e w' => ∃ D P L M, e = .returned (.pointer (some ⟨D, 0, none⟩)) ∧ Hid (DevAt w' D P L M n 0 false 0 false 0 (List.replicate n blank64) (fun _ => none)) ∧ Hid (Below w.heap.size w w') ∧ w.heap.size ≤ P ∧ w.heap.size ≤ L ∧ w.heap.size ≤ M :=
  (new_any n w h1 h2).mono fun _ _ ⟨e, hd, hb⟩ => ⟨_, _, _, _, e, hd, hb, by omega, by omega, by omega⟩
theorem DevAt.lts {W : World} {D P L M n k : Nat} {off : Bool} {uses : Int} {armed : Bool} {left : Int} {las : List (List UInt8)} {f : Int → Option (List UInt8)} (h : DevAt W D P L M n k off uses armed left las f) : D < W.heap.size ∧ P < W.heap.size ∧ L < W.heap.size := ⟨block_lt (p := ⟨D, 0, none⟩) h.d0, block_lt (p := ⟨P, 0, none⟩) h.p0, blk_lt h.lb⟩
theorem uses_any {W : World} {D P L M n k : Nat} {off : Bool} {uses : Int} {armed : Bool} {left : Int} {las : List (List UInt8)} {f : Int → Option (List UInt8)} (h : DevAt W D P L M n k off uses armed left las f) :
    Calls Try.prog 17 #[.pointer (some ⟨D, 0, none⟩)] W fun e w' => e = .returned (.int .i64 uses) ∧ W = w' := by
  have hd := h.d0
  have KP : Hid (Calls Try.prog 11 #[.pointer (some ⟨P, 0, none⟩)] W fun e w' => e = .returned (.int .i64 uses) ∧ W = w') := by
    have hp := h.p1
    show Calls _ _ _ _ _
    clear h hd
    go_enter Try.func11, Try.ntmps11
    go_wp2
    go_ret
    exact ⟨rfl, rfl⟩
  clear h
  go_enter Try.func17, Try.ntmps17
  go_wp2_with fail
  refine KP.out.mono ?_
  rintro e w1 ⟨rfl, rfl⟩
  go_wp2
  go_ret
  exact ⟨rfl, rfl⟩
theorem join1 (s : ByteArray) : joined [s] = s.data.toList := by unfold joined; simp
set_option maxRecDepth 100000 in
set_option maxHeartbeats 2000000 in
theorem awake_any (W : World) : Calls Try.prog 5 #[] W fun e w' => e = .returned (.bool true) ∧ Below W.heap.size W w' := by
  have KN := Lib.hid (new_dev 5 W (by omega) (by omega))
  have KB := Lib.hid (fun W1 (hb : Below W.heap.size W W1) => (blank_any W1).mono fun e w' hh => (⟨hh.1, Lib.hid (hb.trans (hh.2.mono hb.size))⟩ : e = .returned (.string (txt blank64)) ∧ Hid (Below W.heap.size W w')))
  go_enter Try.func5, Try.ntmps5
  go_wp2_with fail
  refine KN.out.mono ?_
  rintro e w1 ⟨D, P, L, M, rfl, hd, hb, gP, gL, gM⟩
  obtain ⟨i1, i2, i3⟩ := hd.out.lts
  have hs1 := hb.out.size
  clear KN
  have hd1 := Lib.hid (hd.out.below (W' := w1.alloc (.cells #[.string ⟨#[97]⟩] 9)) ((Below.refl _ _).alloc (Nat.le_refl _) _))
  have KW := Lib.hid (write_ok (B := W.heap.size) hd1.out ⟨by omega, by omega⟩ (by omega) ⟨gP, gM⟩ (by rw [World.size_alloc]; omega) 1 ⟨by omega, by omega⟩ (by omega) (some ⟨w1.heap.size, 0, none⟩) [⟨#[97]⟩] 1 (by simp) (one_str _ _ _) (fun i => by cases i <;> simp [ByteArray.size]) (by rw [join1]; decide) (fun b off e => by injection e with e; injection e with e1 _; omega))
  have hb1 := Lib.hid (hb.out.alloc hs1 (.cells #[.string ⟨#[97]⟩] 9))
  clear hd hb hd1
  go_wp2_with fail
  refine KW.out.mono ?_
  rintro e w2 ⟨rfl, hd, hb⟩
  have hd2 := Lib.hid hd
  have hb2 := Lib.hid (hb1.out.trans hb)
  clear hd hb hb1 KW
  obtain ⟨i4, i5, i6⟩ := hd2.out.lts
  have hs2 := hb2.out.size
  have hd3 := Lib.hid (hd2.out.below (W' := w2.alloc (.cells #[.string ⟨#[98]⟩] 9)) ((Below.refl _ _).alloc (Nat.le_refl _) _))
  have KW := Lib.hid (write_ok (B := W.heap.size) hd3.out ⟨by omega, by omega⟩ (by omega) ⟨gP, gM⟩ (by rw [World.size_alloc]; omega) 2 ⟨by omega, by omega⟩ (by omega) (some ⟨w2.heap.size, 0, none⟩) [⟨#[98]⟩] 1 (by simp) (one_str _ _ _) (fun i => by cases i <;> simp [ByteArray.size]) (by rw [join1]; decide) (fun b off e => by injection e with e; injection e with e1 _; omega))
  have hb3 := Lib.hid (hb2.out.alloc hs2 (.cells #[.string ⟨#[98]⟩] 9))
  clear hd2 hb2 hd3
  go_wp2_with fail
  refine KW.out.mono ?_
  rintro e w3 ⟨rfl, hd, hb⟩
  have hd4 := Lib.hid hd
  have hb4 := Lib.hid (hb3.out.trans hb)
  clear hd hb hb3 KW
  obtain ⟨i7, i8, i9⟩ := hd4.out.lts
  have hs3 := hb4.out.size
  have hd5 := Lib.hid (hd4.out.below (W' := w3.alloc (.cells #[.int .i64 2] 3)) ((Below.refl _ _).alloc (Nat.le_refl _) _))
  have hb5 := Lib.hid (hb4.out.alloc hs3 (.cells #[.int .i64 2] 3))
  simp only [join1] at hd5
  have KC := Lib.hid (crash_any (B := W.heap.size) hd5.out (fun z l hz => by
      unfold upd at hz
      by_cases e2 : z = 2
      · rw [if_pos e2] at hz; cases hz; exact ⟨by omega, by omega, pad_len (by decide)⟩
      · rw [if_neg e2] at hz
        by_cases e1 : z = 1
        · rw [if_pos e1] at hz; cases hz; exact ⟨by omega, by omega, pad_len (by decide)⟩
        · rw [if_neg e1] at hz; cases hz) ⟨gP, gL, gM⟩ (by rw [World.size_alloc]; omega) (some ⟨w3.heap.size, 0, none⟩) [2] 1 (by simp) (fun z hz => by simp at hz; subst hz; exact WalkArith.wf_i64 (by omega)) (.inr ⟨w3.heap.size, 0, rfl, by omega, fun i hi => by
        match i, hi with
        | 0, _ => exact new_cell rfl rfl⟩))
  clear hd4 hb4 hd5
  go_wp2_with fail
  refine KC.out.mono ?_
  rintro e w4 ⟨rfl, hd, hb⟩
  have hd6 := Lib.hid hd
  have hb6 := Lib.hid (hb5.out.trans hb)
  clear hd hb hb5 KC
  have KR1 := Lib.hid (read_any hd6.out 1 (by omega) (by omega) (fun l h => by cases h))
  have hs6 := hb6.out.size
  have e1 : txt (secAt (keepLas (upd (upd (fun _ => none) 1 (some (pad (ByteArray.mk #[97]).data.toList))) 2 (some (pad (ByteArray.mk #[98]).data.toList))) (List.replicate 5 blank64) [2]) (fun _ => none) 1) = txt blank64 := rfl
  have e2 : txt (secAt (keepLas (upd (upd (fun _ => none) 1 (some (pad (ByteArray.mk #[97]).data.toList))) 2 (some (pad (ByteArray.mk #[98]).data.toList))) (List.replicate 5 blank64) [2]) (fun _ => none) 2) = txt (pad [98]) := rfl
  rw [e1] at KR1
  go_wp2_with fail
  refine KR1.out.mono ?_
  rintro e w5 ⟨rfl, hb⟩
  have hd7 := Lib.hid (hd6.out.below hb)
  have hb7 := Lib.hid (hb6.out.trans (hb.mono hs6))
  clear hb hb6 hd6 KR1
  have hs7 := hb7.out.size
  have KR2 := Lib.hid (read_any hd7.out 2 (by omega) (by omega) (fun l h => by cases h))
  rw [e2] at KR2
  go_wp2_with fail
  refine KR2.out.mono ?_
  rintro e w6 ⟨rfl, hb⟩
  have hd8 := Lib.hid (hd7.out.below hb)
  have hb8 := Lib.hid (hb7.out.trans (hb.mono hs7))
  clear hb hb7 hd7 KR2
  have KU := Lib.hid (fun W1 (hW : Below w6.heap.size w6 W1) => uses_any (hd8.out.below hW))
  have hT : (txt blank64).size = 64 := rfl
  have hV : ByteArray.mk #[98] ++ (txt blank64).extract 1 64 = txt (pad [98]) := by decide +kernel
  have hU : ((txt blank64).extract 1 64).size = 63 := by decide +kernel
  have hs8 := hb8.out.size
  have KB2 := Lib.hid (fun W1 (hW : Below w6.heap.size w6 W1) => (blank_any W1).mono fun e w' hh => (⟨hh.1, Lib.hid (hW.trans (hh.2.mono hW.size))⟩ : e = .returned (.string (txt blank64)) ∧ Hid (Below w6.heap.size w6 w')))
  clear hd8 KB
  generalize txt (pad [98]) = V at *
  generalize txt blank64 = T at *
  go_wp2_with fail
  refine (KB2.out _ (Below.refl _ _)).mono ?_
  rintro e w7 ⟨rfl, hb9⟩
  go_wp2_with fail
  refine (KB2.out _ hb9.out).mono ?_
  rintro e w8 ⟨rfl, hb10⟩
  go_wp2_with fail
  refine (KU.out _ hb10.out).mono ?_
  rintro e w9 ⟨rfl, rfl⟩
  go_wp2
  go_ret
  exact ⟨rfl, hb8.out.trans (hb10.out.mono hs8)⟩
end Go.Proofs.Ytobgopiadfinbaa
