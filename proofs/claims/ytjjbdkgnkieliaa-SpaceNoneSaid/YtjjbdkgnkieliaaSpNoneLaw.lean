/-
  SpaceNone: the walk.
-/
import Derived.Test.YtjjbdkgnkieliaaSpAwake
namespace Go.Proofs.Ytjjbdkgnkieliaa
open Go.RowKit
set_option maxRecDepth 100000 in
set_option maxHeartbeats 4000000 in
theorem spaceNone_walk (txn no : Int) (W : World) : Calls Try.prog 6 #[.int .i64 txn, .int .i64 no] W fun e w' => e = .returned (.bool true) ∧ Below W.heap.size W w' := by
  have B0 : Hid (Below W.heap.size W W) := Below.refl _ _
  have KT := Lib.hid (take_nil (W.alloc (.cells #[.int .i64 no] 3)) txn (.slice (some ⟨W.heap.size, 0, none⟩) 1 1))
  have B1 : Hid (Below W.heap.size W (W.alloc (.cells #[.int .i64 no] 3))) := (Below.refl _ _).alloc (Nat.le_refl _) _
  go_enter Try.func6, Try.ntmps6
  go_wp2_with fail
  refine KT.out.mono ?_
  rintro x w1 ⟨rfl, hw⟩
  rw [hw] at B1
  clear KT hw B0
  have KT := Lib.hid (put_nil (w1.alloc (.cells #[.int .i64 no] 3)) txn (some ⟨w1.heap.size, 0, none⟩) [no] 1 (one_int w1 no 3) (by simp))
  have B2 := Lib.hid (B1.out.alloc B1.out.size (.cells #[.int .i64 no] 3))
  go_wp2_with fail
  refine KT.out.mono ?_
  rintro x w2 ⟨rfl, hw⟩
  rw [hw] at B2
  clear KT hw B1
  have KT := Lib.hid (done_nil (w2.alloc (.cells #[.int .i64 txn] 3)) (.slice (some ⟨w2.heap.size, 0, none⟩) 1 1))
  have B3 := Lib.hid (B2.out.alloc B2.out.size (.cells #[.int .i64 txn] 3))
  go_wp2_with fail
  refine KT.out.mono ?_
  rintro x w3 ⟨rfl, hw⟩
  rw [hw] at B3
  clear KT hw B2
  have KT := Lib.hid (need_nil w3 txn no)
  go_wp2_with fail
  refine KT.out.mono ?_
  rintro x w4 ⟨rfl, rfl⟩
  clear KT
  have KT := Lib.hid (all_nil w3 no)
  go_wp2_with fail
  refine KT.out.mono ?_
  rintro x w4 ⟨rfl, rfl⟩
  clear KT
  have KP := Lib.hid (page_any no 1 (by decide) w3)
  go_wp2_with fail
  refine KP.out.mono ?_
  rintro x w4 ⟨ca, cc, rfl, hp⟩
  have B4 := Lib.hid (B3.out.trans (hp.mono B3.out.size))
  have KM := Lib.hid (room_nil w4 txn no 0 ca 1 cc)
  clear KP hp B3
  go_wp2_with fail
  refine KM.out.mono ?_
  rintro x w5 ⟨rfl, hm⟩
  have B5 := Lib.hid (B4.out.trans (hm.mono B4.out.size))
  clear KM hm B4
  have KP := Lib.hid (page_any no 1 (by decide) w5)
  go_wp2_with fail
  refine KP.out.mono ?_
  rintro x w6 ⟨ca, cc, rfl, hp⟩
  have B6 := Lib.hid (B5.out.trans (hp.mono B5.out.size))
  have KM := Lib.hid (may_nil w6 txn no 0 ca 1 cc)
  clear KP hp B5
  go_wp2_with fail
  refine KM.out.mono ?_
  rintro x w7 ⟨rfl, hm⟩
  have B7 := Lib.hid (B6.out.trans (hm.mono B6.out.size))
  have KA := Lib.hid (awake_any w7)
  clear KM hm B6
  go_wp2_with fail
  refine KA.out.mono ?_
  rintro x w8 ⟨rfl, ha⟩
  have B8 := Lib.hid (B7.out.trans (ha.mono B7.out.size))
  clear KA ha B7
  go_wp2
  go_ret
  exact ⟨rfl, B8.out⟩
end Go.Proofs.Ytjjbdkgnkieliaa
