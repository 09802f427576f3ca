/-
  THE DOCUMENT'S EXAMPLE of chapter 13.
-/
import Derived.Test.YtkemhkmabbladaaGreatDoorPlz
namespace Go.Proofs.YtkemhkmabbladaaGreatDoor
open Go.RowKit
section
variable {w W X : World} {D P L M n B T np Q room MF k : Nat} {now : Nat → Pg} {o : Int → Option Nat} {fv : Int → FrD}
theorem begin_s (w w0 : World) (hb0 : Below w.heap.size w w0) (ht : Tab w) (p : Nat) (h1 : 1 ≤ p) (h2 : p ≤ 64) (room : Nat) (hr : 1 ≤ room) (_hr2 : room ≤ 1000000) :
    Calls Tryz.prog 7 #[.int .i64 (p : Int), .int .i64 (room : Int)] w0 fun x w' => ∃ D P L M T Q MF, x = .returned (.tuple #[.pointer (some ⟨Q, 0, none⟩), .pointer (some ⟨D, 0, none⟩)]) ∧ PlS w w' D P L M (5 + 4 * p) (0 + (5 + 4 * p) + 1) T p (fun _ => (0, [])) Q room MF 0 (fun _ => none) (fun _ => noFr) := by
  have KN := Lib.hid (c_new (5 + 4 * p) w w0 hb0 ht (by omega) (by omega))
  rw [show ((5 + 4 * p : Nat) : Int) = 5 + 4 * (p : Int) by omega] at KN
  clear hb0 ht
  go_enter Tryz.func7, Tryz.ntmps7
  go_wp2_with fail
  refine KN.out.mono ?_
  rintro x w1 ⟨D, P, L, M, rfl, hd1, hb1⟩
  have KF := Lib.hid (c_fmt hd1 (by omega) (by omega) p h1 h2 (Nat.le_refl _))
  clear hd1 hb1 KN
  go_wp2_with fail
  refine KF.out.mono ?_
  rintro x w2 ⟨T, rfl, hk2, hf2⟩
  have KP := Lib.hid (pool_new hk2 room hr)
  clear hk2 hf2 KF
  go_wp2_with fail
  refine KP.out.mono ?_
  rintro x w3 ⟨Q, MF, rfl, hp3, hb3⟩
  have HP := Lib.hid hp3
  clear hp3 hb3 KP
  go_wp2
  exact bodyPost_ret (v := .tuple #[.pointer (some ⟨Q, 0, none⟩), .pointer (some ⟨D, 0, none⟩)]) (by simp [results, Tryz.results7, go_sem]) rfl ⟨D, P, L, M, T, Q, MF, rfl, HP.out⟩
theorem keys_one (F : Nat) : KeysOf (updF (fun _ => none) 1 (some F)) [1] :=
  ⟨by simp, fun i => by
    unfold updF
    by_cases h : i = 1
    · rw [if_pos h, h]; simp
    · rw [if_neg h]; simp [h], by simp⟩
set_option maxRecDepth 100000 in
set_option maxHeartbeats 4000000 in
theorem awake13_any (w w0 : World) (hb0 : Below w.heap.size w w0) (ht : Tab w) : Calls Tryz.prog 6 #[] w0 fun x w' => x = .returned (.bool true) ∧ Below w.heap.size w w' := by
  have KB := Lib.hid (begin_s w w0 hb0 ht 3 (by omega) (by omega) 2 (by omega) (by omega))
  rw [show ((3 : Nat) : Int) = 3 from rfl, show ((2 : Nat) : Int) = 2 from rfl] at KB
  clear hb0 ht
  go_enter Tryz.func6, Tryz.ntmps6
  go_wp2_with fail
  refine KB.out.mono ?_
  rintro x w1 ⟨D, P, L, M, T, Q, MF, rfl, hp1⟩
  have KG := Lib.hid (get_new hp1 (by omega) (by omega) (by omega) (by omega) 1 (by omega) rfl (by simp))
  rw [show ((1 : Nat) : Int) = 1 from rfl] at KG
  clear hp1 KB
  go_wp2_with fail
  refine KG.out.mono ?_
  rintro x w2 ⟨⟨a, c, hx, hrow⟩, ⟨F, v, hp2⟩, _⟩
  have hx : x = .returned (.tuple #[.agg #[.int .i64 1, .int .i64 0, .slice a 0 c], .int .i64 0]) := hx
  subst hx
  have hz : a = none ∨ ∃ b off, a = some ⟨b, off, none⟩ := by
    obtain ⟨a', c', e, _, h⟩ := row_form hrow
    injection e with e1 e2 e3
    subst e1
    exact h
  have hks := keys_one F
  obtain ⟨o2, ho2⟩ : ∃ o2, o2 = updF (fun _ => none) 1 (some F) := ⟨_, rfl⟩
  obtain ⟨f2, hf2⟩ : ∃ f2 : Int → FrD, f2 = updV (fun _ => noFr) 1 ⟨0, v, [], 0, 0⟩ := ⟨_, rfl⟩
  have hp2 : PlS w w2 D P L M 17 18 T 3 (fun _ => (0, [])) Q 2 MF 1 (updF (fun _ => none) 1 (some F)) (updV (fun _ => noFr) 1 ⟨0, v, [], 0, 0⟩) := hp2
  have eF : o2 1 = some F := by rw [ho2]; unfold updF; rw [if_pos rfl]
  have ef : f2 1 = ⟨0, v, [], 0, 0⟩ := by rw [hf2]; unfold updV; rw [if_pos rfl]
  rw [← ho2] at hks
  rw [← ho2, ← hf2] at hp2
  have hba := (Below.refl w2.heap.size w2).alloc (Nat.le_refl _) (.cells #[.int .i64 1, .int .i64 0, .slice a 0 c] 36)
  have c0 : (w2.alloc (.cells #[.int .i64 1, .int .i64 0, .slice a 0 c] 36)).cell? ⟨w2.heap.size, 0, none⟩ = some (.int .i64 1) := Dv.new_cell rfl rfl
  have c1 : (w2.alloc (.cells #[.int .i64 1, .int .i64 0, .slice a 0 c] 36)).cell? ⟨w2.heap.size, 1, none⟩ = some (.int .i64 0) := Dv.new_cell rfl rfl
  have c2 : (w2.alloc (.cells #[.int .i64 1, .int .i64 0, .slice a 0 c] 36)).cell? ⟨w2.heap.size, 2, none⟩ = some (.slice a 0 c) := Dv.new_cell rfl rfl
  have cf : (w2.alloc (.cells #[.int .i64 1, .int .i64 0, .slice a 0 c] 36)).frozen? ⟨w2.heap.size, 1, none⟩ = false := World.frozen?_alloc_at _ _ _ _ rfl
  clear hrow KG ho2 hf2
  go_upto_region 3 with fail
  generalize w2.alloc (.cells #[.int .i64 1, .int .i64 0, .slice a 0 c] 36) = Y at *
  have hbs := hba.setCell (p := ⟨w2.heap.size, 1, none⟩) (Nat.le_refl _) (.int .i64 5)
  have oth : ∀ {u : Value} (j : Nat), 1 ≠ j → Y.cell? ⟨w2.heap.size, j, none⟩ = some u → (Y.setCell ⟨w2.heap.size, 1, none⟩ (.int .i64 5)).cell? ⟨w2.heap.size, j, none⟩ = some u := fun j hne hc => by
    rw [World.cell?_setCell_other _ _ _ _ (fun e => by injection e with _ e; exact hne e)]; exact hc
  have d0 := oth 0 (by decide) c0
  have d1 : (Y.setCell ⟨w2.heap.size, 1, none⟩ (.int .i64 5)).cell? ⟨w2.heap.size, 1, none⟩ = some (.int .i64 5) := World.cell?_setCell_same _ _ _ c1
  have d2 := oth 2 (by decide) c2
  have hp3 := hp2.below hbs
  have KC := Lib.hid (change_none hp3 1 (by decide) eF 5 a c hz (by decide) (by rw [ef]; show (0 : Int) < 5; decide))
  clear hp3 hp2 hbs hba oth hz
  go_wp2_with fail
  refine KC.out.mono ?_
  rintro x w4 ⟨rfl, ⟨v2, hp4⟩, _⟩
  have e4 : chFr (f2 1) 5 v2 = ⟨5, v2, [], 5, 0⟩ := by rw [ef]; rfl
  rw [e4] at hp4
  obtain ⟨f4, hf4⟩ : ∃ f4 : Int → FrD, f4 = updV f2 1 ⟨5, v2, [], 5, 0⟩ := ⟨_, rfl⟩
  have ef4 : f4 1 = ⟨5, v2, [], 5, 0⟩ := by rw [hf4]; unfold updV; rw [if_pos rfl]
  rw [← hf4] at hp4
  have KY := Lib.hid (flush_busy hp4 1 (by decide) hks eF (by rw [ef4]; show (0 : Int) < 5; decide) 4 (by rw [ef4]; show (4 : Int) < 5; decide))
  clear hp4 KC e4 hf4 d0 d1 d2 c0 c1 c2 cf
  go_wp2_with fail
  refine KY.out.mono ?_
  rintro x w5 ⟨rfl, hp5, _⟩
  have KZ := Lib.hid (flush_put hp5 (by omega) (by omega) (by omega) 1 (by omega) (by decide) hks eF (by rw [show ((1 : Nat) : Int) = 1 from rfl, ef4]; show (0 : Int) < 5; decide) 5 (by rw [show ((1 : Nat) : Int) = 1 from rfl, ef4]; show (5 : Int) ≤ 5; decide) (by rw [show ((1 : Nat) : Int) = 1 from rfl, ef4]) (by rw [show ((1 : Nat) : Int) = 1 from rfl, ef4]; show pgOk 1 5 [] = true; decide))
  clear hp5 KY
  go_wp2_with fail
  refine KZ.out.mono ?_
  rintro x w6 ⟨rfl, hp6, _⟩
  have HB := Lib.hid hp6.bw
  clear hp6 KZ
  go_wp2
  go_ret
  exact ⟨rfl, HB.out⟩
end
end Go.Proofs.YtkemhkmabbladaaGreatDoor
