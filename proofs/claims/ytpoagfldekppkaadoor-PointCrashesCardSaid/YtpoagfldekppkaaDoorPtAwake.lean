/-
  awake of law 19: the document's examples.
-/
import Derived.Test.YtpoagfldekppkaaDoorPtLow
namespace Go.Proofs.YtpoagfldekppkaaDoor
open Go.RowKit
theorem new19 (w : World) : Calls Tryd.prog 9 #[.pointer none, .int .i64 2] w (Dv.NewPost w 2) := Dv.new_any 2 w (by omega) (by omega)
/-- What Format makes of a new device. -/
def FmYes (w : World) (D P L M n : Nat) (x : Ending) (w' : World) : Prop := ∃ A, x = .returned (.tuple #[.pointer (some ⟨A, 0, none⟩), .int .i64 0]) ∧ Pt w w' A D P L M n false 0 1 0 0 1
set_option maxRecDepth 100000 in
set_option maxHeartbeats 4000000 in
theorem awake19_any (w : World) (ht : Tab w) : Calls Tryd.prog 7 #[] w fun x w' => x = .returned (.bool true) ∧ Below w.heap.size w w' := by
  have KN := Lib.hid new19
  have KF := Lib.hid (fun W D P L M (h : Dv.DevAt W D P L M 2 0 false 0 false 0 (List.replicate 2 Dv.blank64) (fun _ => none)) (hw : Below w.heap.size w W) hlo => (show Calls _ _ _ _ (FmYes w D P L M 2) from format_any 2 (by omega) h ht hw hlo))
  have KL := Lib.hid (fun W b (h : IntsAt W (some ⟨b, 0, none⟩) [4, 7]) => low_any 9 (by omega) (some ⟨b, 0, none⟩) [4, 7] 2 W (by simp [maxLen]) h)
  have KL0 := Lib.hid (fun W => low_any 9 (by omega) none [] 0 W (by simp [maxLen]) (.inl rfl))
  rw [show lowL 9 [4, 7] = 4 by decide] at KL
  rw [show lowL 9 [] = 10 by decide] at KL0
  have HT := Lib.hid ht
  clear ht
  go_enter Tryd.func7, Tryd.ntmps7
  go_wp2_with fail
  refine (KN.out _).mono ?_
  rintro x w1 ⟨rfl, hd1, hb1⟩
  have hs1 := hb1.size
  have K1 := Lib.hid (KF.out _ _ _ _ _ hd1 hb1 ⟨Nat.le_refl _, Nat.le_succ _, Nat.le_trans (Nat.le_succ _) (Nat.le_succ _)⟩)
  clear hd1 hb1 KN KF hs1
  go_wp2_with fail
  refine K1.out.mono ?_
  rintro x w2 ⟨A, rfl, hP⟩
  have P2 := Lib.hid hP
  clear hP K1
  generalize w.heap.size + 1 + 1 + 1 = D at *
  generalize w.heap.size + 1 + 1 = M at *
  generalize w.heap.size + 1 = L at *
  generalize hPp : w.heap.size = P at P2
  have K2 := Lib.hid (pt_yes P2.out HT.out (by omega) (by omega) (by omega) (fun e => by cases e) 4 2 (by omega) (by omega) (by omega) (by omega))
  go_wp2_with fail
  refine K2.out.mono ?_
  rintro x w3 ⟨rfl, hP, _⟩
  have P3 := Lib.hid hP
  clear hP K2 P2
  have K3 := Lib.hid (pt_open P3.out (by omega) HT.out)
  go_wp2_with fail
  refine K3.out.mono ?_
  rintro x w4 ⟨A2, hA2, rfl, hm4, hb4⟩
  have M4 := Lib.hid hm4
  have B4 := Lib.hid (P3.out.bw.trans (hb4.mono P3.out.bw.size))
  clear hm4 hb4 K3 P3 hA2
  have hI : IntsAt (w4.alloc (.cells #[.int .i64 4, .int .i64 7] 3)) (some ⟨w4.heap.size, 0, none⟩) [4, 7] := .inr ⟨w4.heap.size, 0, rfl, fun i hi => by
    match i, hi with
    | 0, _ => exact new_h rfl rfl
    | 1, _ => exact new_h rfl rfl⟩
  have hby := (Below.refl w4.heap.size w4).alloc (Nat.le_refl _) (.cells #[.int .i64 4, .int .i64 7] 3)
  have K4 := Lib.hid (KL.out _ _ hI)
  have M5 := Lib.hid (M4.out.below hby)
  have B5 := Lib.hid (B4.out.trans (hby.mono B4.out.size))
  clear hI hby M4 B4 KL
  go_wp2_with fail
  refine K4.out.mono ?_
  rintro x w5 ⟨rfl, hb5⟩
  have M6 := Lib.hid (M5.out.below hb5)
  have B6 := Lib.hid (B5.out.trans (hb5.mono B5.out.size))
  clear hb5 K4 M5 B5
  go_wp2_with fail
  refine (KL0.out _).mono ?_
  rintro x w6 ⟨rfl, hb6⟩
  have M7 := Lib.hid (M6.out.below hb6)
  have B7 := Lib.hid (B6.out.trans (hb6.mono B6.out.size))
  clear hb6 KL0 M6 B6
  have K5 := Lib.hid (point_any M7.out)
  go_wp2_with fail
  refine K5.out.mono ?_
  rintro x w7 ⟨rfl, hb7⟩
  have B8 := Lib.hid (B7.out.trans (hb7.mono B7.out.size))
  clear hb7 K5 M7 B7
  go_wp2
  exact bodyPost_ret (v := .bool true) (by simp [results, Tryd.results7, go_sem]) rfl ⟨rfl, by first | exact B8.out | exact hPp ▸ B8.out⟩
end Go.Proofs.YtpoagfldekppkaaDoor
