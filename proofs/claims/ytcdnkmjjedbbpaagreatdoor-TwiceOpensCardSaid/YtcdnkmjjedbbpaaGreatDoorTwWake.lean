/-
  THE CONTRACT OF awake of law 12: the document's example.
-/
import Derived.Test.YtcdnkmjjedbbpaaGreatDoorTwAwake
namespace Go.Proofs.YtcdnkmjjedbbpaaGreatDoor
open Go.RowKit
theorem row_one {L : Nat} (X : World) (Ty : TypeId) (z : Int) (hL : L < X.heap.size) : Dv.IntsIn (X.alloc (.cells #[.int .i64 z] Ty)) (some ⟨X.heap.size, 0, none⟩) L [z] := .inr ⟨X.heap.size, 0, rfl, by omega, fun i hi => by
  match i, hi with
  | 0, _ => exact Dv.new_cell rfl rfl⟩
set_option maxRecDepth 100000 in
set_option maxHeartbeats 4000000 in
theorem awake12_any (w w0 : World) (hb0 : Below w.heap.size w w0) (ht : Tab w) : Calls Tryz.prog 5 #[] w0 fun x w' => x = .returned (.bool true) ∧ Below w.heap.size w w' := by
  have KN := Lib.hid (c_new 50 w w0 hb0 ht (by omega) (by omega))
  clear hb0
  go_enter Tryz.func5, Tryz.ntmps5
  go_wp2_with fail
  refine KN.out.mono ?_
  rintro x w1 ⟨D, P, L, M, rfl, hd1, hb1⟩
  have KF := Lib.hid (c_fmt hd1 (by omega) (by omega) 4 (by omega) (by omega) (by omega))
  rw [show ((4 : Nat) : Int) = 4 from rfl] at KF
  clear hd1 hb1 KN
  go_wp2_with fail
  refine KF.out.mono ?_
  rintro x w2 ⟨T, rfl, hk2, hf2⟩
  have KA := Lib.hid (c_arm hk2 (by intro h; cases h) 9 (by omega))
  rw [show ((9 : Nat) : Int) = 9 from rfl] at KA
  clear hk2 hf2 KF
  go_wp2_with fail
  refine KA.out.mono ?_
  rintro x w3 ⟨rfl, hk3, hf3⟩
  have KS := Lib.hid (aw_call hk3 (by omega))
  clear hk3 hf3 KA
  go_wp2_with fail
  refine KS.out.mono ?_
  rintro x w4 ⟨rfl, hk4, hf4⟩
  have hL4 : P < w4.heap.size ∧ L < w4.heap.size ∧ M < w4.heap.size := by obtain ⟨s, h, _⟩ := hk4; exact h.d.lts.2
  have hba := (Below.refl w4.heap.size w4).alloc (Nat.le_refl _) (.cells #[.int .i64 14] 3)
  have KC := Lib.hid (c_crash (hk4.below hba) (some ⟨w4.heap.size, 0, none⟩) [14] 1 (by simp) (by intro z hz; simp at hz; subst hz; decide) (row_one w4 3 14 hL4.2.1))
  clear hk4 hf4 KS hba hL4
  go_wp2_with fail
  refine KC.out.mono ?_
  rintro x w5 ⟨rfl, hk5, hf5⟩
  have KO := Lib.hid (c_open hk5 (by omega) (by omega) (by omega) (by omega) (by omega))
  rw [show ((4 : Nat) : Int) = 4 from rfl] at KO
  clear hk5 hf5 KC
  go_wp2_with fail
  refine KO.out.mono ?_
  rintro x w6 ⟨U, rfl, hk6, hf6⟩
  have KP := Lib.hid ((c_page hk6 (by intro h; cases h) (by omega) (by omega) 2 (by omega)).mono fun x w' (hh : _ ∧ ∃ a c, x = _ ∧ _ ∧ _) => (⟨hh.2.choose, hh.2.choose_spec.choose, hh.2.choose_spec.choose_spec.1, hh.2.choose_spec.choose_spec.2.2⟩ : ∃ (a : Option Addr) (c : Nat), x = .returned (.tuple #[.agg #[.int .i64 2, .int .i64 7, .slice a 0 c], .int .i64 0]) ∧ Below w6.heap.size w6 w'))
  have K6 := Lib.hid hk6
  rw [show ((2 : Nat) : Int) = 2 from rfl] at KP
  clear hk6 hf6 KO
  go_wp2_with fail
  refine KP.out.mono ?_
  rintro x w7 ⟨a, c, rfl, hb7⟩
  have hba := (Below.refl w7.heap.size w7).alloc (Nat.le_refl _) (.cells #[.int .i64 2, .int .i64 7, .slice a 0 c] 36)
  have K7 := Lib.hid ((K6.out.below hb7).below hba)
  have c1 : (w7.alloc (.cells #[.int .i64 2, .int .i64 7, .slice a 0 c] 36)).cell? ⟨w7.heap.size, 1, none⟩ = some (.int .i64 7) := Dv.new_cell rfl rfl
  clear hb7 hba K6 KP
  go_upto_region 8 with fail
  generalize w7.alloc (.cells #[.int .i64 2, .int .i64 7, .slice a 0 c] 36) = Y at *
  have KG := Lib.hid (show Calls Tryz.prog 24 #[.pointer (some ⟨U, 0, none⟩)] Y fun x w' => x = .returned (.int .i64 4) ∧ Y = w' by
    obtain ⟨s, hs, _⟩ := K7.out
    exact pages_s hs)
  have hbw := K7.out.bw
  clear K7
  go_wp2_with fail
  refine KG.out.mono ?_
  rintro x w8 ⟨rfl, rfl⟩
  clear KG
  go_wp2
  go_ret
  exact ⟨rfl, hbw⟩
end Go.Proofs.YtcdnkmjjedbbpaaGreatDoor
