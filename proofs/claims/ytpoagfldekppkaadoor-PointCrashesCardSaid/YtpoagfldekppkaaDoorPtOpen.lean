/-
  THE CONTRACTS of point.Open, alone and Format.
-/
import Derived.Test.YtpoagfldekppkaaDoorPtPoint
namespace Go.Proofs.YtpoagfldekppkaaDoor
open Go.RowKit
abbrev agH (q : Hd5) : Value := .agg #[.int .i64 q.1, .int .i64 q.2.1, .int .i64 q.2.2.1, .int .i64 q.2.2.2.1, .int .i64 q.2.2.2.2]
section
variable {W : World} {A P L M : Nat} {da : Option Addr} {lo nx sq : Int}
/-- What Open answers of a point's head. -/
def OpYes (W : World) (da : Option Addr) (lo nx sq : Int) (x : Ending) (w' : World) : Prop :=
  ∃ A, W.heap.size ≤ A ∧ x = .returned (.tuple #[.pointer (some ⟨A, 0, none⟩), .int .i64 0]) ∧ MsAt w' A lo nx da sq ∧ Below W.heap.size W w'
set_option maxRecDepth 100000 in
set_option maxHeartbeats 1000000 in
theorem open_yes (lo nx sq : Int)
    (KL : Hid (∀ X, Below W.heap.size W X → Calls Tryd.prog 23 #[.pointer da, .int .i64 0] X fun x w' => x = .returned (.tuple #[.agg #[.int .i64 sq, .int .i64 0, .int .i64 nx, .int .i64 lo, .int .i64 0], .int .i64 0]) ∧ Below X.heap.size X w')) :
    Calls Tryd.prog 15 #[.pointer da] W (OpYes W da lo nx sq) := by
  go_enter Tryd.func15, Tryd.ntmps15
  go_wp2_with fail
  refine (KL.out _ (Below.refl _ _)).mono ?_
  rintro x w1 ⟨rfl, hb⟩
  have HB := Lib.hid (hb.alloc hb.size (.cells #[.int .i64 sq, .int .i64 0, .int .i64 nx, .int .i64 lo, .int .i64 0] 44))
  clear hb KL
  obtain ⟨r0, r1, r2, r3, r4⟩ := C5.new w1 (.int .i64 sq) (.int .i64 0) (.int .i64 nx) (.int .i64 lo) (.int .i64 0) 44
  go_upto_region 2 with fail
  generalize w1.alloc (.cells #[.int .i64 sq, .int .i64 0, .int .i64 nx, .int .i64 lo, .int .i64 0] 44) = Y at *
  generalize w1.heap.size = R at *
  have HM := Lib.hid (MsAt.new Y lo nx da sq 58)
  have HB2 := Lib.hid (HB.out.alloc HB.out.size (.cells #[.int .i64 lo, .int .i64 nx, .pointer da, .int .i64 sq] 58))
  have hs := HB.out.size
  go_wp2
  go_ret2
  exact ⟨_, hs, rfl, HM.out, HB2.out⟩
set_option maxRecDepth 100000 in
set_option maxHeartbeats 1000000 in
theorem open_bad (q : Hd5) (hq : ¬ (q.2.1 = 0 ∧ q.2.2.2.2 = 0))
    (KL : Hid (∀ X, Below W.heap.size W X → Calls Tryd.prog 23 #[.pointer da, .int .i64 0] X fun x w' => x = .returned (.tuple #[agH q, .int .i64 0]) ∧ Below X.heap.size X w')) :
    Calls Tryd.prog 15 #[.pointer da] W fun x w' => x = .returned (.tuple #[.pointer none, .int .i64 9]) ∧ Below W.heap.size W w' := by
  obtain ⟨s, e, c, t, m⟩ := q
  simp only [agH] at KL hq
  go_enter Tryd.func15, Tryd.ntmps15
  go_wp2_with fail
  refine (KL.out _ (Below.refl _ _)).mono ?_
  rintro x w1 ⟨rfl, hb⟩
  have HB := Lib.hid (hb.alloc hb.size (.cells #[.int .i64 s, .int .i64 e, .int .i64 c, .int .i64 t, .int .i64 m] 44))
  clear hb KL
  obtain ⟨r0, r1, r2, r3, r4⟩ := C5.new w1 (.int .i64 s) (.int .i64 e) (.int .i64 c) (.int .i64 t) (.int .i64 m) 44
  go_upto_region 2 with fail
  generalize w1.alloc (.cells #[.int .i64 s, .int .i64 e, .int .i64 c, .int .i64 t, .int .i64 m] 44) = Y at *
  generalize w1.heap.size = R at *
  by_cases he : e = 0
  · subst he
    have hm : ¬ m = 0 := fun h => hq ⟨rfl, h⟩
    clear hq
    go_wp2
    go_ret2
    exact ⟨rfl, HB.out⟩
  · clear hq
    go_wp2
    go_ret2
    exact ⟨rfl, HB.out⟩
theorem open_no (e : Int) (he : ¬ e = 0)
    (KL : Hid (∀ X, Below W.heap.size W X → Calls Tryd.prog 23 #[.pointer da, .int .i64 0] X fun x w' => x = .returned (.tuple #[.agg #[.int .i64 0, .int .i64 0, .int .i64 0, .int .i64 0, .int .i64 0], .int .i64 e]) ∧ Below X.heap.size X w')) :
    Calls Tryd.prog 15 #[.pointer da] W fun x w' => x = .returned (.tuple #[.pointer none, .int .i64 e]) ∧ Below W.heap.size W w' := by
  go_enter Tryd.func15, Tryd.ntmps15
  go_wp2_with fail
  refine (KL.out _ (Below.refl _ _)).mono ?_
  rintro x w1 ⟨rfl, hb⟩
  have HB := Lib.hid (hb.alloc hb.size (.cells #[.int .i64 0, .int .i64 0, .int .i64 0, .int .i64 0, .int .i64 0] 44))
  clear hb KL
  go_upto_region 2 with fail
  generalize w1.alloc (.cells #[.int .i64 0, .int .i64 0, .int .i64 0, .int .i64 0, .int .i64 0] 44) = Y at *
  go_wp2
  go_ret2
  exact ⟨rfl, HB.out⟩
set_option maxRecDepth 100000 in
set_option maxHeartbeats 1000000 in
theorem alone_m (h : MsAt W A lo nx da sq)
    (KL : Hid (∀ X, Below W.heap.size W X → Calls Tryd.prog 23 #[.pointer da, .int .i64 0] X fun x w' => x = .returned (.tuple #[.agg #[.int .i64 sq, .int .i64 0, .int .i64 nx, .int .i64 lo, .int .i64 0], .int .i64 0]) ∧ Below X.heap.size X w')) :
    Calls Tryd.prog 21 #[.pointer (some ⟨A, 0, none⟩)] W fun x w' => x = .returned (.int .i64 0) ∧ Below W.heap.size W w' := by
  have HM := Lib.hid h
  obtain ⟨c0, c1, c2, c3, fz⟩ := h
  go_enter Tryd.func21, Tryd.ntmps21
  go_wp2_with fail
  refine (KL.out _ (Below.refl _ _)).mono ?_
  rintro x w1 ⟨rfl, hb⟩
  have HB := Lib.hid (hb.alloc hb.size (.cells #[.int .i64 sq, .int .i64 0, .int .i64 nx, .int .i64 lo, .int .i64 0] 44))
  have M2 := Lib.hid (HM.out.below HB.out)
  clear hb KL c0 c1 c2 c3 fz HM
  obtain ⟨r0, r1, r2, r3, r4⟩ := C5.new w1 (.int .i64 sq) (.int .i64 0) (.int .i64 nx) (.int .i64 lo) (.int .i64 0) 44
  go_upto_region 2 with fail
  generalize w1.alloc (.cells #[.int .i64 sq, .int .i64 0, .int .i64 nx, .int .i64 lo, .int .i64 0] 44) = Y at *
  generalize w1.heap.size = R at *
  obtain ⟨c0, c1, c2, c3, fz⟩ := M2.out
  have hd : decide (sq = sq) = true := by simp
  go_quiet (fail)
  have HB3 := Lib.hid (below_drewN HB.out)
  go_wp2
  go_ret
  exact ⟨rfl, HB3.out _⟩
end
end Go.Proofs.YtpoagfldekppkaaDoor
