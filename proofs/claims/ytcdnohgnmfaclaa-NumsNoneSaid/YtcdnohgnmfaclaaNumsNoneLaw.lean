/-
  THE WALK OF quadrigalaw01.NumsNone: a set that is none has nothing; it returns true, and writes nothing that was there.
-/
import Derived.Test.YtcdnohgnmfaclaaNumsRisesLaw
namespace Go.Proofs.Ytcdnohgnmfaclaa
open Go.RowKit

theorem noLen (w : World) : Calls Try.prog 23 #[.pointer none] w fun e w' => e = .returned (.int .i64 0) ∧ w = w' := by
  go_enter Try.func23, Try.ntmps23
  go_wp2
  go_ret
  exact ⟨rfl, rfl⟩
theorem noEnds (w : World) : Calls Try.prog 20 #[.pointer none] w fun e w' => e = .returned (.tuple #[.int .i64 0, .int .i64 0, .bool false]) ∧ w = w' := by
  have HL := Lib.hid (noLen w)
  go_enter Try.func20, Try.ntmps20
  go_wp2_with fail
  refine HL.out.mono ?_
  rintro e w1 ⟨rfl, rfl⟩
  go_wp2
  go_ret3
  exact ⟨rfl, rfl⟩
theorem noList (w : World) : Calls Try.prog 22 #[.pointer none] w fun e w' => e = .returned (.slice none 0 0) ∧ w = w' := by
  go_enter Try.func22, Try.ntmps22
  go_wp2
  go_ret
  exact ⟨rfl, rfl⟩
theorem noFrom (n : Int) (w : World) : Calls Try.prog 25 #[.pointer none, .int .i64 n] w fun e w' => e = .returned (.slice none 0 0) ∧ w = w' := by
  go_enter Try.func25, Try.ntmps25
  go_wp2
  go_ret
  exact ⟨rfl, rfl⟩
theorem noAdd (s : Value) (w : World) : Calls Try.prog 26 #[.pointer none, s] w fun e w' => e = .returned (.int .i64 0) ∧ w = w' := by
  go_enter Try.func26, Try.ntmps26
  go_wp2
  go_ret
  exact ⟨rfl, rfl⟩
theorem noDrop (s : Value) (w : World) : Calls Try.prog 27 #[.pointer none, s] w fun e w' => e = .returned (.int .i64 0) ∧ w = w' := by
  go_enter Try.func27, Try.ntmps27
  go_wp2
  go_ret
  exact ⟨rfl, rfl⟩
theorem noAdd1 (n : Int) (w : World) : ∀ W, Below w.heap.size w W → Calls Try.prog 26 #[.pointer none, .slice (some ⟨W.heap.size, 0, none⟩) 1 1] (W.alloc (.cells #[.int .i64 n] 3)) fun e w' => e = .returned (.int .i64 0) ∧ Below w.heap.size w w' := fun W hW =>
  (noAdd _ _).mono fun e w' h => ⟨h.1, by rw [← h.2]; exact hW.alloc hW.size _⟩
theorem noDrop1 (n : Int) (w : World) : ∀ W, Below w.heap.size w W → Calls Try.prog 27 #[.pointer none, .slice (some ⟨W.heap.size, 0, none⟩) 1 1] (W.alloc (.cells #[.int .i64 n] 3)) fun e w' => e = .returned (.int .i64 0) ∧ Below w.heap.size w w' := fun W hW =>
  (noDrop _ _).mono fun e w' h => ⟨h.1, by rw [← h.2]; exact hW.alloc hW.size _⟩
theorem noFind (n : Int) (w : World) : Calls Try.prog 31 #[.pointer none, .int .i64 n] w fun e w' => e = .returned (.tuple #[.int .i64 0, .int .i64 0, .bool false]) ∧ Below w.heap.size w w' := by
  have hb1 : Below w.heap.size w (w.alloc (.cells #[.pointer none] 37)) := (Below.refl _ _).alloc (Nat.le_refl _) _
  have hb2 := hb1.alloc hb1.size (.cells #[.int .i64 n] 3)
  go_enter Try.func31, Try.ntmps31
  go_wp2
  go_ret3
  exact ⟨rfl, hb2⟩
theorem noHas0 (w : World) : Calls Try.prog 24 #[.pointer none, .slice none 0 0] w fun e w' => e = .returned (.bool true) ∧ w = w' := by
  go_enter Try.func24, Try.ntmps24
  go_wp2
  refine wp_loop_rounds 1 ?_
  rw [rounds_succ]
  go_wp2
  go_ret
  exact ⟨rfl, rfl⟩
theorem noHas1 (n : Int) (w : World) : ∀ W, Below w.heap.size w W → Calls Try.prog 24 #[.pointer none, .slice (some ⟨W.heap.size, 0, none⟩) 1 1] (W.alloc (.cells #[.int .i64 n] 3)) fun e w' => e = .returned (.bool false) ∧ Below w.heap.size w w' := fun W hW => by
  have hb : Below w.heap.size w (W.alloc (.cells #[.int .i64 n] 3)) := hW.alloc hW.size _
  have HA := Lib.hid (one_int W n 3)
  have HF := Lib.hid fun W' => noFind n W'
  obtain ⟨W1, hW1⟩ : ∃ W1, W1 = W.alloc (.cells #[.int .i64 n] 3) := ⟨_, rfl⟩
  rw [← hW1] at hb HA ⊢
  obtain ⟨b, off, hbo, hc⟩ := HA.out.cell (k := 0) (by simp)
  simp at hbo
  obtain ⟨rfl, rfl⟩ := hbo
  clear hW1 HA
  go_enter Try.func24, Try.ntmps24
  go_wp2
  refine wp_loop_rounds 1 ?_
  rw [rounds_succ]
  go_wp2_with fail
  refine (HF.out _).mono ?_
  rintro e w2 ⟨rfl, hb2⟩
  have hb3 := hb.trans (hb2.mono hb.size)
  go_wp2
  go_ret
  exact ⟨rfl, hb3⟩

set_option maxHeartbeats 1000000 in
theorem numsNone_walk (n : Int) (w : World) :
    Calls Try.prog 7 #[.int .i64 n] w fun e w' => e = .returned (.bool true) ∧ Below w.heap.size w w' := by
  have HL := Lib.hid noLen
  have HE := Lib.hid (noEnds w)
  have HLi := Lib.hid noList
  have HFr := Lib.hid (noFrom n)
  have HA := Lib.hid (noAdd1 n w)
  have HD := Lib.hid (noDrop1 n w)
  have HH0 := Lib.hid noHas0
  have HH1 := Lib.hid (noHas1 n w)
  have HWk := Lib.hid fun W => awake_any W
  go_enter Try.func7, Try.ntmps7
  go_wp2_with fail
  refine HE.out.mono ?_
  rintro e w1 ⟨rfl, rfl⟩
  go_wp2_with fail
  refine (HA.out _ (Below.refl _ _)).mono ?_
  rintro e w1 ⟨rfl, hb1⟩
  go_wp2_with fail
  refine (HD.out _ hb1).mono ?_
  rintro e w2 ⟨rfl, hb2⟩
  go_wp2_with fail
  refine (HH1.out _ hb2).mono ?_
  rintro e w3 ⟨rfl, hb3⟩
  clear hb1 hb2 HA HD HH1
  go_wp2_with fail
  refine (HH0.out _).mono ?_
  rintro e w4 ⟨rfl, rfl⟩
  go_wp2_with fail
  refine (HL.out _).mono ?_
  rintro e w4 ⟨rfl, rfl⟩
  go_wp2_with fail
  refine (HLi.out _).mono ?_
  rintro e w4 ⟨rfl, rfl⟩
  go_wp2_with fail
  refine (HFr.out _).mono ?_
  rintro e w4 ⟨rfl, rfl⟩
  go_wp2_with fail
  refine (HWk.out _).mono ?_
  rintro e w4 ⟨rfl, hb4⟩
  have hb5 := hb3.trans (hb4.mono hb3.size)
  go_wp2
  go_ret
  exact ⟨rfl, hb5⟩
end Go.Proofs.Ytcdnohgnmfaclaa
