/-
  A device's power: armed at once, gone off by the next use; what is told while it is off.
-/
import Derived.Test.YtobgopiadfinbaaDvSync
import Derived.Test.YtobgopiadfinbaaDvWrite2
namespace Go.Proofs.Ytobgopiadfinbaa
open Go.RowKit
section
variable {W : World} {D P L M n k : Nat} {uses left : Int} {las : List (List UInt8)} {f : Int → Option (List UInt8)}
theorem Fr3.two {a : World} {i j : Nat} {u v : Value} : Fr3 P L M a ((a.setCell ⟨P, i, none⟩ u).setCell ⟨P, j, none⟩ v) := (Fr3.setP a i u).trans (Fr3.setP _ j v)
/-- Arm(0). -/
theorem arm_zero {off armed : Bool} (h : DevAt W D P L M n k off uses armed left las f) :
    Calls Try.prog 22 #[.pointer (some ⟨D, 0, none⟩), .int .i64 0] W fun e w' => e = .returned (.tuple #[]) ∧ DevAt w' D P L M n k off uses true 0 las f ∧ Fr3 P L M W w' := by
  have HA : Hid (DevAt ((W.setCell ⟨P, 2, none⟩ (.bool true)).setCell ⟨P, 3, none⟩ (.int .i64 0)) D P L M n k off uses true 0 las f) := (h.pow.2.2.1 true).pow.2.2.2 0
  have KA : Hid (Calls Try.prog 34 #[.pointer (some ⟨P, 0, none⟩), .int .i64 0] W fun e w' => e = .returned (.tuple #[]) ∧ w' = (W.setCell ⟨P, 2, none⟩ (.bool true)).setCell ⟨P, 3, none⟩ (.int .i64 0)) := by
    have h2 := h.p2
    have h3 : ∀ v, (W.setCell ⟨P, 2, none⟩ v).cell? ⟨P, 3, none⟩ = some (.int .i64 left) := fun v => by
      rw [World.cell?_setCell_other _ _ _ _ (fun e => by injection e with _ e2; cases e2)]; exact h.p3
    have hf := h.pf
    clear h
    go_enter Try.func34, Try.ntmps34
    go_wp2
    exact bodyPost_end (v := .tuple #[]) (by simp [results, Try.results34]) rfl ⟨rfl, rfl⟩
  have hd := h.d0
  clear h
  go_enter Try.func22, Try.ntmps22
  go_wp2_with fail
  refine KA.out.mono ?_
  rintro e w' ⟨rfl, rfl⟩
  have HB := HA.out
  have HF : Hid (Fr3 P L M W ((W.setCell ⟨P, 2, none⟩ (.bool true)).setCell ⟨P, 3, none⟩ (.int .i64 0))) := Fr3.two
  generalize (W.setCell ⟨P, 2, none⟩ (.bool true)).setCell ⟨P, 3, none⟩ (.int .i64 0) = X at *
  have HB := Lib.hid HB
  clear hd
  go_wp2
  exact bodyPost_end (v := .tuple #[]) (by simp [results, Try.results22]) rfl ⟨rfl, HB.out, HF.out⟩
/-- The use by which it goes off. -/
theorem use_last (h : DevAt W D P L M n k false uses true 0 las f) (hu : 0 ≤ uses ∧ uses ≤ 1000000000) :
    Calls Try.prog 30 #[.pointer (some ⟨P, 0, none⟩)] W fun e w' => e = .returned (.bool false) ∧ DevAt w' D P L M n k true (uses + 1) true (-1) las f ∧ Fr3 P L M W w' := by
  have KO := Lib.hid (powOn_any P false W h.p0)
  have D1 := h.pow.2.1 (uses + 1)
  have D2 := D1.pow.1 true
  have D3 := D2.pow.2.2.2 (-1)
  have KX := Lib.hid (powOn_any P true _ D3.p0)
  have HF : Hid (Fr3 P L M W (((W.setCell ⟨P, 1, none⟩ (.int .i64 (uses + 1))).setCell ⟨P, 0, none⟩ (.bool true)).setCell ⟨P, 3, none⟩ (.int .i64 (-1)))) := Fr3.two.trans (Fr3.setP _ 3 _)
  have HD := Lib.hid D3
  have a1 := h.p1
  have a2 := D1.p2
  have a3 := D1.p3
  have a0 := D1.p0
  have b3 := D2.p3
  have hf := h.pf
  obtain ⟨u0, u1⟩ := hu
  clear h D1 D2 D3
  go_enter Try.func30, Try.ntmps30
  go_wp2_with fail
  refine KO.out.mono ?_
  rintro x w1 ⟨rfl, rfl⟩
  go_wp2_with fail
  refine KX.out.mono ?_
  rintro x w1 ⟨rfl, rfl⟩
  clear a1 a2 a3 a0 b3
  go_wp2
  go_ret
  exact ⟨rfl, HD.out, HF.out⟩
theorem use_off {armed : Bool} (h : DevAt W D P L M n k true uses armed left las f) :
    Calls Try.prog 30 #[.pointer (some ⟨P, 0, none⟩)] W fun e w' => e = .returned (.bool false) ∧ W = w' := by
  have KO := Lib.hid (powOn_any P true W h.p0)
  clear h
  go_enter Try.func30, Try.ntmps30
  go_wp2_with fail
  refine KO.out.mono ?_
  rintro x w1 ⟨rfl, rfl⟩
  go_wp2
  go_ret
  exact ⟨rfl, rfl⟩
theorem sync_last (h : DevAt W D P L M n k false uses true 0 las f) (hu : 0 ≤ uses ∧ uses ≤ 1000000000) :
    Calls Try.prog 21 #[.pointer (some ⟨D, 0, none⟩)] W fun e w' => e = .returned (.int .i64 6) ∧ DevAt w' D P L M n k true (uses + 1) true (-1) las f ∧ Fr3 P L M W w' := by
  have KU := Lib.hid (use_last h hu)
  have hd := h.d0
  clear h
  go_enter Try.func21, Try.ntmps21
  go_wp2_with fail
  refine KU.out.mono ?_
  rintro x w1 ⟨rfl, hd1, hf1⟩
  have HD := Lib.hid hd1
  have HF := Lib.hid hf1
  clear hd1 hf1 hd KU
  go_wp2
  go_ret
  exact ⟨rfl, HD.out, HF.out⟩
theorem read_off {armed : Bool} (h : DevAt W D P L M n k true uses armed left las f) (i : Int) :
    Calls Try.prog 15 #[.pointer (some ⟨D, 0, none⟩), .int .i64 i] W fun e w' => e = .returned (.tuple #[.string ⟨#[]⟩, .int .i64 6]) ∧ W = w' := by
  have KO := Lib.hid (devOn h)
  clear h
  go_enter Try.func15, Try.ntmps15
  go_wp2_with fail
  refine KO.out.mono ?_
  rintro x w1 ⟨rfl, rfl⟩
  go_wp2
  go_ret2
  exact ⟨rfl, rfl⟩
theorem write_off {armed : Bool} (h : DevAt W D P L M n k true uses armed left las f) (i : Int) (v : Value) :
    Calls Try.prog 13 #[.pointer (some ⟨D, 0, none⟩), .int .i64 i, v] W fun e w' => e = .returned (.int .i64 6) ∧ W = w' := by
  have KU := Lib.hid (use_off h)
  have hd := h.d0
  clear h
  go_enter Try.func13, Try.ntmps13
  go_wp2_with fail
  refine KU.out.mono ?_
  rintro x w1 ⟨rfl, rfl⟩
  go_wp2
  go_ret
  exact ⟨rfl, rfl⟩
theorem sectors_nil (W : World) : Calls Try.prog 26 #[.pointer none] W fun e w' => e = .returned (.int .i64 0) ∧ W = w' := by
  go_enter Try.func26, Try.ntmps26
  go_wp2
  go_ret
  exact ⟨rfl, rfl⟩
end
end Go.Proofs.Ytobgopiadfinbaa
