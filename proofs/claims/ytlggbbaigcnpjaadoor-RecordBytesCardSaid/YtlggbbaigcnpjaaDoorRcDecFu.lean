/-
  THE WALK OF record.Decode, where the kind changes no a page and has an Undo.
-/
import Derived.Test.YtlggbbaigcnpjaaDoorRcDec
namespace Go.Proofs.YtlggbbaigcnpjaaDoor
open Go.RowKit

set_option maxRecDepth 100000 in
set_option maxHeartbeats 4000000 in
theorem decode_fu_short (gsn k t p u : Int) (s s1 s2 s3 s9 : ByteArray) (b1 b2 b3 b9 : Bool) (us : Nat) (w : World) (hs : s.size ≤ 1000) (h0 : numOf s false 1 = (k, s1, b1)) (h1 : numOf s1 b1 4 = (t, s2, b2)) (h2 : numOf s2 b2 8 = (p, s3, b3)) (h3 : numOf s3 b3 (us : Int) = (u, s9, b9)) (hc : (k == 2 || k == 3) = false) (hu : usz k = us) (hus : 0 < us ∧ us ≤ 8) (hF : b9 = true) :
    Calls Tryd.prog 8 #[.int .i64 gsn, .string s] w fun e w' => e = .returned (.tuple #[.agg #[.int .i64 0, .int .i64 0, .int .i64 0, .int .i64 0, .int .i64 0, .string ⟨#[]⟩, .bool false, .string ⟨#[]⟩, .bool false, .string ⟨#[]⟩, .int .i64 0], .int .i64 2]) ∧ Below w.heap.size w w' := by
  have K0 := Lib.hid (fun X a0 a1 a2 => number_at (w.heap.size + 1) s false 1 X (by omega) (by omega) a0 a1 a2)
  have z0 : s1.size ≤ 1000 := by have := numOf_rest (s := s) (b := false) (K := 1); rw [h0] at this; exact Nat.le_trans this hs
  rw [h0] at K0
  have K1 := Lib.hid (fun X a0 a1 a2 => number_at (w.heap.size + 1) s1 b1 4 X (by omega) (by omega) a0 a1 a2)
  have z1 : s2.size ≤ 1000 := by have := numOf_rest (s := s1) (b := b1) (K := 4); rw [h1] at this; exact Nat.le_trans this z0
  rw [h1] at K1
  have K2 := Lib.hid (fun X a0 a1 a2 => number_at (w.heap.size + 1) s2 b2 8 X (by omega) (by omega) a0 a1 a2)
  have z2 : s3.size ≤ 1000 := by have := numOf_rest (s := s2) (b := b2) (K := 8); rw [h2] at this; exact Nat.le_trans this z1
  rw [h2] at K2
  have K3 := Lib.hid (fun X a0 a1 a2 => number_at (w.heap.size + 1) s3 b3 (us : Int) X (by omega) (by omega) a0 a1 a2)
  have z3 : s9.size ≤ 1000 := by have := numOf_rest (s := s3) (b := b3) (K := (us : Int)); rw [h3] at this; exact Nat.le_trans this z2
  rw [h3] at K3
  have KC := Lib.hid (fun X => changes_any k X)
  have KU := Lib.hid (fun X => undoSize_any k X)
  rw [hc] at KC
  rw [hu] at KU
  have hgt : (0 : Int) < (us : Int) := by omega
  have D := Lib.hid (DecSt.start w s gsn 25 44 25)
  clear h0 z0 h1 z1 h2 z2 h3 z3 hc hu hs hus
  subst hF
  go_enter Tryd.func8, Tryd.ntmps8
  go_wp2_with fail
  refine (K0.out _ D.out.tk0 D.out.tk1 D.out.tkf).mono ?_
  rintro x w1 ⟨rfl, P⟩
  replace D := Lib.hid (D.out.call P)
  clear P K0
  have r0 : w1.cell? ⟨w.heap.size + 1 + 1, 0, none⟩ = some (.int .i64 0) := D.out.rcd 0 (by omega)
  have rf := D.out.rcdf
  replace D := Lib.hid (D.out.set rfl 0 (by omega) (.int .i64 k))
  replace D : Hid (DecSt w (w1.setCell ⟨w.heap.size + 1 + 1, 0, none⟩ (.int .i64 k)) s1 b1 [.int .i64 k, .int .i64 gsn, .int .i64 0, .int .i64 0, .int .i64 0, .string ⟨#[]⟩, .bool false, .string ⟨#[]⟩, .bool false, .string ⟨#[]⟩, .int .i64 0]) := D
  go_wp2_with fail
  clear r0 rf
  refine (K1.out _ D.out.tk0 D.out.tk1 D.out.tkf).mono ?_
  rintro x w2 ⟨rfl, P⟩
  replace D := Lib.hid (D.out.call P)
  clear P K1
  have r0 : w2.cell? ⟨w.heap.size + 1 + 1, 2, none⟩ = some (.int .i64 0) := D.out.rcd 2 (by omega)
  have rf := D.out.rcdf
  replace D := Lib.hid (D.out.set rfl 2 (by omega) (.int .i64 t))
  replace D : Hid (DecSt w (w2.setCell ⟨w.heap.size + 1 + 1, 2, none⟩ (.int .i64 t)) s2 b2 [.int .i64 k, .int .i64 gsn, .int .i64 t, .int .i64 0, .int .i64 0, .string ⟨#[]⟩, .bool false, .string ⟨#[]⟩, .bool false, .string ⟨#[]⟩, .int .i64 0]) := D
  go_wp2_with fail
  clear r0 rf
  refine (K2.out _ D.out.tk0 D.out.tk1 D.out.tkf).mono ?_
  rintro x w3 ⟨rfl, P⟩
  replace D := Lib.hid (D.out.call P)
  clear P K2
  have r0 : w3.cell? ⟨w.heap.size + 1 + 1, 3, none⟩ = some (.int .i64 0) := D.out.rcd 3 (by omega)
  have rf := D.out.rcdf
  replace D := Lib.hid (D.out.set rfl 3 (by omega) (.int .i64 p))
  replace D : Hid (DecSt w (w3.setCell ⟨w.heap.size + 1 + 1, 3, none⟩ (.int .i64 p)) s3 b3 [.int .i64 k, .int .i64 gsn, .int .i64 t, .int .i64 p, .int .i64 0, .string ⟨#[]⟩, .bool false, .string ⟨#[]⟩, .bool false, .string ⟨#[]⟩, .int .i64 0]) := D
  have g0 : (w3.setCell ⟨w.heap.size + 1 + 1, 3, none⟩ (.int .i64 p)).cell? ⟨w.heap.size + 1 + 1, 0, none⟩ = some (.int .i64 k) := D.out.rcd 0 (by omega)
  go_wp2_with fail
  clear r0 rf
  refine (KC.out _).mono ?_
  rintro x x2 ⟨rfl, rfl⟩
  clear KC
  go_wp2_with fail
  refine (KU.out _).mono ?_
  rintro x x3 ⟨rfl, rfl⟩
  clear KU g0
  go_wp2_with fail
  refine (K3.out _ D.out.tk0 D.out.tk1 D.out.tkf).mono ?_
  rintro x w4 ⟨rfl, P⟩
  replace D := Lib.hid (D.out.call P)
  clear P K3
  have r0 : w4.cell? ⟨w.heap.size + 1 + 1, 10, none⟩ = some (.int .i64 0) := D.out.rcd 10 (by omega)
  have rf := D.out.rcdf
  replace D := Lib.hid (D.out.set rfl 10 (by omega) (.int .i64 u))
  replace D : Hid (DecSt w (w4.setCell ⟨w.heap.size + 1 + 1, 10, none⟩ (.int .i64 u)) s9 true [.int .i64 k, .int .i64 gsn, .int .i64 t, .int .i64 p, .int .i64 0, .string ⟨#[]⟩, .bool false, .string ⟨#[]⟩, .bool false, .string ⟨#[]⟩, .int .i64 u]) := D
  have q0 : (w4.setCell ⟨w.heap.size + 1 + 1, 10, none⟩ (.int .i64 u)).cell? ⟨w.heap.size + 1, 0, none⟩ = some (.string s9) := D.out.tk0
  have q1 : (w4.setCell ⟨w.heap.size + 1 + 1, 10, none⟩ (.int .i64 u)).cell? ⟨w.heap.size + 1, 1, none⟩ = some (.bool true) := D.out.tk1
  have D2 := D
  have y0 : (w4.setCell ⟨w.heap.size + 1 + 1, 10, none⟩ (.int .i64 u)).cell? ⟨w.heap.size, 0, none⟩ = some (.int .i64 0) := D2.out.out 0 (by omega)
  have y1 : (w4.setCell ⟨w.heap.size + 1 + 1, 10, none⟩ (.int .i64 u)).cell? ⟨w.heap.size, 1, none⟩ = some (.int .i64 0) := D2.out.out 1 (by omega)
  have y2 : (w4.setCell ⟨w.heap.size + 1 + 1, 10, none⟩ (.int .i64 u)).cell? ⟨w.heap.size, 2, none⟩ = some (.int .i64 0) := D2.out.out 2 (by omega)
  have y3 : (w4.setCell ⟨w.heap.size + 1 + 1, 10, none⟩ (.int .i64 u)).cell? ⟨w.heap.size, 3, none⟩ = some (.int .i64 0) := D2.out.out 3 (by omega)
  have y4 : (w4.setCell ⟨w.heap.size + 1 + 1, 10, none⟩ (.int .i64 u)).cell? ⟨w.heap.size, 4, none⟩ = some (.int .i64 0) := D2.out.out 4 (by omega)
  have y5 : (w4.setCell ⟨w.heap.size + 1 + 1, 10, none⟩ (.int .i64 u)).cell? ⟨w.heap.size, 5, none⟩ = some (.string ⟨#[]⟩) := D2.out.out 5 (by omega)
  have y6 : (w4.setCell ⟨w.heap.size + 1 + 1, 10, none⟩ (.int .i64 u)).cell? ⟨w.heap.size, 6, none⟩ = some (.bool false) := D2.out.out 6 (by omega)
  have y7 : (w4.setCell ⟨w.heap.size + 1 + 1, 10, none⟩ (.int .i64 u)).cell? ⟨w.heap.size, 7, none⟩ = some (.string ⟨#[]⟩) := D2.out.out 7 (by omega)
  have y8 : (w4.setCell ⟨w.heap.size + 1 + 1, 10, none⟩ (.int .i64 u)).cell? ⟨w.heap.size, 8, none⟩ = some (.bool false) := D2.out.out 8 (by omega)
  have y9 : (w4.setCell ⟨w.heap.size + 1 + 1, 10, none⟩ (.int .i64 u)).cell? ⟨w.heap.size, 9, none⟩ = some (.string ⟨#[]⟩) := D2.out.out 9 (by omega)
  have y10 : (w4.setCell ⟨w.heap.size + 1 + 1, 10, none⟩ (.int .i64 u)).cell? ⟨w.heap.size, 10, none⟩ = some (.int .i64 0) := D2.out.out 10 (by omega)
  have yf : ∀ i, (w4.setCell ⟨w.heap.size + 1 + 1, 10, none⟩ (.int .i64 u)).frozen? ⟨w.heap.size, i, none⟩ = false := D2.out.outf
  go_wp2
  obtain ⟨X, hX, e0, e1, e2, e3, e4, e5, e6, e7, e8, e9, e10, hbX⟩ := set11 (v0 := .int .i64 0) (v1 := .int .i64 0) (v2 := .int .i64 0) (v3 := .int .i64 0) (v4 := .int .i64 0) (v5 := .string ⟨#[]⟩) (v6 := .bool false) (v7 := .string ⟨#[]⟩) (v8 := .bool false) (v9 := .string ⟨#[]⟩) (v10 := .int .i64 0) D2.out.bel (Nat.le_refl _) y0 y1 y2 y3 y4 y5 y6 y7 y8 y9 y10
  rw [← hX]
  refine bodyPost_ret (v := .tuple #[.agg #[.int .i64 0, .int .i64 0, .int .i64 0, .int .i64 0, .int .i64 0, .string ⟨#[]⟩, .bool false, .string ⟨#[]⟩, .bool false, .string ⟨#[]⟩, .int .i64 0], .int .i64 2]) ?_ rfl ⟨rfl, hbX⟩
  simp [results, Tryd.results8, go_sem, e0, e1, e2, e3, e4, e5, e6, e7, e8, e9, e10]

set_option maxRecDepth 100000 in
set_option maxHeartbeats 4000000 in
theorem decode_fu_rest (gsn k t p u : Int) (s s1 s2 s3 s9 : ByteArray) (b1 b2 b3 b9 : Bool) (us : Nat) (w : World) (hs : s.size ≤ 1000) (h0 : numOf s false 1 = (k, s1, b1)) (h1 : numOf s1 b1 4 = (t, s2, b2)) (h2 : numOf s2 b2 8 = (p, s3, b3)) (h3 : numOf s3 b3 (us : Int) = (u, s9, b9)) (hc : (k == 2 || k == 3) = false) (hu : usz k = us) (hus : 0 < us ∧ us ≤ 8) (hF : b9 = false) (hE : ¬ s9.toList = []) :
    Calls Tryd.prog 8 #[.int .i64 gsn, .string s] w fun e w' => e = .returned (.tuple #[.agg #[.int .i64 0, .int .i64 0, .int .i64 0, .int .i64 0, .int .i64 0, .string ⟨#[]⟩, .bool false, .string ⟨#[]⟩, .bool false, .string ⟨#[]⟩, .int .i64 0], .int .i64 2]) ∧ Below w.heap.size w w' := by
  have K0 := Lib.hid (fun X a0 a1 a2 => number_at (w.heap.size + 1) s false 1 X (by omega) (by omega) a0 a1 a2)
  have z0 : s1.size ≤ 1000 := by have := numOf_rest (s := s) (b := false) (K := 1); rw [h0] at this; exact Nat.le_trans this hs
  rw [h0] at K0
  have K1 := Lib.hid (fun X a0 a1 a2 => number_at (w.heap.size + 1) s1 b1 4 X (by omega) (by omega) a0 a1 a2)
  have z1 : s2.size ≤ 1000 := by have := numOf_rest (s := s1) (b := b1) (K := 4); rw [h1] at this; exact Nat.le_trans this z0
  rw [h1] at K1
  have K2 := Lib.hid (fun X a0 a1 a2 => number_at (w.heap.size + 1) s2 b2 8 X (by omega) (by omega) a0 a1 a2)
  have z2 : s3.size ≤ 1000 := by have := numOf_rest (s := s2) (b := b2) (K := 8); rw [h2] at this; exact Nat.le_trans this z1
  rw [h2] at K2
  have K3 := Lib.hid (fun X a0 a1 a2 => number_at (w.heap.size + 1) s3 b3 (us : Int) X (by omega) (by omega) a0 a1 a2)
  have z3 : s9.size ≤ 1000 := by have := numOf_rest (s := s3) (b := b3) (K := (us : Int)); rw [h3] at this; exact Nat.le_trans this z2
  rw [h3] at K3
  have KC := Lib.hid (fun X => changes_any k X)
  have KU := Lib.hid (fun X => undoSize_any k X)
  rw [hc] at KC
  rw [hu] at KU
  have hgt : (0 : Int) < (us : Int) := by omega
  have D := Lib.hid (DecSt.start w s gsn 25 44 25)
  clear h0 z0 h1 z1 h2 z2 h3 z3 hc hu hs hus
  have hE2 := Lib.hid hE
  subst hF
  go_enter Tryd.func8, Tryd.ntmps8
  go_wp2_with fail
  refine (K0.out _ D.out.tk0 D.out.tk1 D.out.tkf).mono ?_
  rintro x w1 ⟨rfl, P⟩
  replace D := Lib.hid (D.out.call P)
  clear P K0
  have r0 : w1.cell? ⟨w.heap.size + 1 + 1, 0, none⟩ = some (.int .i64 0) := D.out.rcd 0 (by omega)
  have rf := D.out.rcdf
  replace D := Lib.hid (D.out.set rfl 0 (by omega) (.int .i64 k))
  replace D : Hid (DecSt w (w1.setCell ⟨w.heap.size + 1 + 1, 0, none⟩ (.int .i64 k)) s1 b1 [.int .i64 k, .int .i64 gsn, .int .i64 0, .int .i64 0, .int .i64 0, .string ⟨#[]⟩, .bool false, .string ⟨#[]⟩, .bool false, .string ⟨#[]⟩, .int .i64 0]) := D
  go_wp2_with fail
  clear r0 rf
  refine (K1.out _ D.out.tk0 D.out.tk1 D.out.tkf).mono ?_
  rintro x w2 ⟨rfl, P⟩
  replace D := Lib.hid (D.out.call P)
  clear P K1
  have r0 : w2.cell? ⟨w.heap.size + 1 + 1, 2, none⟩ = some (.int .i64 0) := D.out.rcd 2 (by omega)
  have rf := D.out.rcdf
  replace D := Lib.hid (D.out.set rfl 2 (by omega) (.int .i64 t))
  replace D : Hid (DecSt w (w2.setCell ⟨w.heap.size + 1 + 1, 2, none⟩ (.int .i64 t)) s2 b2 [.int .i64 k, .int .i64 gsn, .int .i64 t, .int .i64 0, .int .i64 0, .string ⟨#[]⟩, .bool false, .string ⟨#[]⟩, .bool false, .string ⟨#[]⟩, .int .i64 0]) := D
  go_wp2_with fail
  clear r0 rf
  refine (K2.out _ D.out.tk0 D.out.tk1 D.out.tkf).mono ?_
  rintro x w3 ⟨rfl, P⟩
  replace D := Lib.hid (D.out.call P)
  clear P K2
  have r0 : w3.cell? ⟨w.heap.size + 1 + 1, 3, none⟩ = some (.int .i64 0) := D.out.rcd 3 (by omega)
  have rf := D.out.rcdf
  replace D := Lib.hid (D.out.set rfl 3 (by omega) (.int .i64 p))
  replace D : Hid (DecSt w (w3.setCell ⟨w.heap.size + 1 + 1, 3, none⟩ (.int .i64 p)) s3 b3 [.int .i64 k, .int .i64 gsn, .int .i64 t, .int .i64 p, .int .i64 0, .string ⟨#[]⟩, .bool false, .string ⟨#[]⟩, .bool false, .string ⟨#[]⟩, .int .i64 0]) := D
  have g0 : (w3.setCell ⟨w.heap.size + 1 + 1, 3, none⟩ (.int .i64 p)).cell? ⟨w.heap.size + 1 + 1, 0, none⟩ = some (.int .i64 k) := D.out.rcd 0 (by omega)
  go_wp2_with fail
  clear r0 rf
  refine (KC.out _).mono ?_
  rintro x x2 ⟨rfl, rfl⟩
  clear KC
  go_wp2_with fail
  refine (KU.out _).mono ?_
  rintro x x3 ⟨rfl, rfl⟩
  clear KU g0
  go_wp2_with fail
  refine (K3.out _ D.out.tk0 D.out.tk1 D.out.tkf).mono ?_
  rintro x w4 ⟨rfl, P⟩
  replace D := Lib.hid (D.out.call P)
  clear P K3
  have r0 : w4.cell? ⟨w.heap.size + 1 + 1, 10, none⟩ = some (.int .i64 0) := D.out.rcd 10 (by omega)
  have rf := D.out.rcdf
  replace D := Lib.hid (D.out.set rfl 10 (by omega) (.int .i64 u))
  replace D : Hid (DecSt w (w4.setCell ⟨w.heap.size + 1 + 1, 10, none⟩ (.int .i64 u)) s9 false [.int .i64 k, .int .i64 gsn, .int .i64 t, .int .i64 p, .int .i64 0, .string ⟨#[]⟩, .bool false, .string ⟨#[]⟩, .bool false, .string ⟨#[]⟩, .int .i64 u]) := D
  have q0 : (w4.setCell ⟨w.heap.size + 1 + 1, 10, none⟩ (.int .i64 u)).cell? ⟨w.heap.size + 1, 0, none⟩ = some (.string s9) := D.out.tk0
  have q1 : (w4.setCell ⟨w.heap.size + 1 + 1, 10, none⟩ (.int .i64 u)).cell? ⟨w.heap.size + 1, 1, none⟩ = some (.bool false) := D.out.tk1
  have D2 := D
  have hne : decide (s9.toList = []) = false := decide_eq_false hE
  have y0 : (w4.setCell ⟨w.heap.size + 1 + 1, 10, none⟩ (.int .i64 u)).cell? ⟨w.heap.size, 0, none⟩ = some (.int .i64 0) := D2.out.out 0 (by omega)
  have y1 : (w4.setCell ⟨w.heap.size + 1 + 1, 10, none⟩ (.int .i64 u)).cell? ⟨w.heap.size, 1, none⟩ = some (.int .i64 0) := D2.out.out 1 (by omega)
  have y2 : (w4.setCell ⟨w.heap.size + 1 + 1, 10, none⟩ (.int .i64 u)).cell? ⟨w.heap.size, 2, none⟩ = some (.int .i64 0) := D2.out.out 2 (by omega)
  have y3 : (w4.setCell ⟨w.heap.size + 1 + 1, 10, none⟩ (.int .i64 u)).cell? ⟨w.heap.size, 3, none⟩ = some (.int .i64 0) := D2.out.out 3 (by omega)
  have y4 : (w4.setCell ⟨w.heap.size + 1 + 1, 10, none⟩ (.int .i64 u)).cell? ⟨w.heap.size, 4, none⟩ = some (.int .i64 0) := D2.out.out 4 (by omega)
  have y5 : (w4.setCell ⟨w.heap.size + 1 + 1, 10, none⟩ (.int .i64 u)).cell? ⟨w.heap.size, 5, none⟩ = some (.string ⟨#[]⟩) := D2.out.out 5 (by omega)
  have y6 : (w4.setCell ⟨w.heap.size + 1 + 1, 10, none⟩ (.int .i64 u)).cell? ⟨w.heap.size, 6, none⟩ = some (.bool false) := D2.out.out 6 (by omega)
  have y7 : (w4.setCell ⟨w.heap.size + 1 + 1, 10, none⟩ (.int .i64 u)).cell? ⟨w.heap.size, 7, none⟩ = some (.string ⟨#[]⟩) := D2.out.out 7 (by omega)
  have y8 : (w4.setCell ⟨w.heap.size + 1 + 1, 10, none⟩ (.int .i64 u)).cell? ⟨w.heap.size, 8, none⟩ = some (.bool false) := D2.out.out 8 (by omega)
  have y9 : (w4.setCell ⟨w.heap.size + 1 + 1, 10, none⟩ (.int .i64 u)).cell? ⟨w.heap.size, 9, none⟩ = some (.string ⟨#[]⟩) := D2.out.out 9 (by omega)
  have y10 : (w4.setCell ⟨w.heap.size + 1 + 1, 10, none⟩ (.int .i64 u)).cell? ⟨w.heap.size, 10, none⟩ = some (.int .i64 0) := D2.out.out 10 (by omega)
  have yf : ∀ i, (w4.setCell ⟨w.heap.size + 1 + 1, 10, none⟩ (.int .i64 u)).frozen? ⟨w.heap.size, i, none⟩ = false := D2.out.outf
  go_wp2
  obtain ⟨X, hX, e0, e1, e2, e3, e4, e5, e6, e7, e8, e9, e10, hbX⟩ := set11 (v0 := .int .i64 0) (v1 := .int .i64 0) (v2 := .int .i64 0) (v3 := .int .i64 0) (v4 := .int .i64 0) (v5 := .string ⟨#[]⟩) (v6 := .bool false) (v7 := .string ⟨#[]⟩) (v8 := .bool false) (v9 := .string ⟨#[]⟩) (v10 := .int .i64 0) D2.out.bel (Nat.le_refl _) y0 y1 y2 y3 y4 y5 y6 y7 y8 y9 y10
  rw [← hX]
  refine bodyPost_ret (v := .tuple #[.agg #[.int .i64 0, .int .i64 0, .int .i64 0, .int .i64 0, .int .i64 0, .string ⟨#[]⟩, .bool false, .string ⟨#[]⟩, .bool false, .string ⟨#[]⟩, .int .i64 0], .int .i64 2]) ?_ rfl ⟨rfl, hbX⟩
  simp [results, Tryd.results8, go_sem, e0, e1, e2, e3, e4, e5, e6, e7, e8, e9, e10]

set_option maxRecDepth 100000 in
set_option maxHeartbeats 4000000 in
theorem decode_fu_wrong (gsn k t p u : Int) (s s1 s2 s3 s9 : ByteArray) (b1 b2 b3 b9 : Bool) (us : Nat) (w : World) (hs : s.size ≤ 1000) (h0 : numOf s false 1 = (k, s1, b1)) (h1 : numOf s1 b1 4 = (t, s2, b2)) (h2 : numOf s2 b2 8 = (p, s3, b3)) (h3 : numOf s3 b3 (us : Int) = (u, s9, b9)) (hc : (k == 2 || k == 3) = false) (hu : usz k = us) (hus : 0 < us ∧ us ≤ 8) (hF : b9 = false) (hE : s9 = ⟨#[]⟩) (hO : rcOk k gsn t p 0 ⟨#[]⟩ false ⟨#[]⟩ false ⟨#[]⟩ u = false) :
    Calls Tryd.prog 8 #[.int .i64 gsn, .string s] w fun e w' => e = .returned (.tuple #[.agg #[.int .i64 0, .int .i64 0, .int .i64 0, .int .i64 0, .int .i64 0, .string ⟨#[]⟩, .bool false, .string ⟨#[]⟩, .bool false, .string ⟨#[]⟩, .int .i64 0], .int .i64 2]) ∧ Below w.heap.size w w' := by
  have K0 := Lib.hid (fun X a0 a1 a2 => number_at (w.heap.size + 1) s false 1 X (by omega) (by omega) a0 a1 a2)
  have z0 : s1.size ≤ 1000 := by have := numOf_rest (s := s) (b := false) (K := 1); rw [h0] at this; exact Nat.le_trans this hs
  rw [h0] at K0
  have K1 := Lib.hid (fun X a0 a1 a2 => number_at (w.heap.size + 1) s1 b1 4 X (by omega) (by omega) a0 a1 a2)
  have z1 : s2.size ≤ 1000 := by have := numOf_rest (s := s1) (b := b1) (K := 4); rw [h1] at this; exact Nat.le_trans this z0
  rw [h1] at K1
  have K2 := Lib.hid (fun X a0 a1 a2 => number_at (w.heap.size + 1) s2 b2 8 X (by omega) (by omega) a0 a1 a2)
  have z2 : s3.size ≤ 1000 := by have := numOf_rest (s := s2) (b := b2) (K := 8); rw [h2] at this; exact Nat.le_trans this z1
  rw [h2] at K2
  have K3 := Lib.hid (fun X a0 a1 a2 => number_at (w.heap.size + 1) s3 b3 (us : Int) X (by omega) (by omega) a0 a1 a2)
  have z3 : s9.size ≤ 1000 := by have := numOf_rest (s := s3) (b := b3) (K := (us : Int)); rw [h3] at this; exact Nat.le_trans this z2
  rw [h3] at K3
  have KC := Lib.hid (fun X => changes_any k X)
  have KU := Lib.hid (fun X => undoSize_any k X)
  rw [hc] at KC
  rw [hu] at KU
  have KR := Lib.hid (right_at k gsn t p 0 u ⟨#[]⟩ ⟨#[]⟩ ⟨#[]⟩ false false)
  rw [hO] at KR
  have hgt : (0 : Int) < (us : Int) := by omega
  have D := Lib.hid (DecSt.start w s gsn 25 44 25)
  clear h0 z0 h1 z1 h2 z2 h3 z3 hc hu hs hus hO
  subst hE
  subst hF
  go_enter Tryd.func8, Tryd.ntmps8
  go_wp2_with fail
  refine (K0.out _ D.out.tk0 D.out.tk1 D.out.tkf).mono ?_
  rintro x w1 ⟨rfl, P⟩
  replace D := Lib.hid (D.out.call P)
  clear P K0
  have r0 : w1.cell? ⟨w.heap.size + 1 + 1, 0, none⟩ = some (.int .i64 0) := D.out.rcd 0 (by omega)
  have rf := D.out.rcdf
  replace D := Lib.hid (D.out.set rfl 0 (by omega) (.int .i64 k))
  replace D : Hid (DecSt w (w1.setCell ⟨w.heap.size + 1 + 1, 0, none⟩ (.int .i64 k)) s1 b1 [.int .i64 k, .int .i64 gsn, .int .i64 0, .int .i64 0, .int .i64 0, .string ⟨#[]⟩, .bool false, .string ⟨#[]⟩, .bool false, .string ⟨#[]⟩, .int .i64 0]) := D
  go_wp2_with fail
  clear r0 rf
  refine (K1.out _ D.out.tk0 D.out.tk1 D.out.tkf).mono ?_
  rintro x w2 ⟨rfl, P⟩
  replace D := Lib.hid (D.out.call P)
  clear P K1
  have r0 : w2.cell? ⟨w.heap.size + 1 + 1, 2, none⟩ = some (.int .i64 0) := D.out.rcd 2 (by omega)
  have rf := D.out.rcdf
  replace D := Lib.hid (D.out.set rfl 2 (by omega) (.int .i64 t))
  replace D : Hid (DecSt w (w2.setCell ⟨w.heap.size + 1 + 1, 2, none⟩ (.int .i64 t)) s2 b2 [.int .i64 k, .int .i64 gsn, .int .i64 t, .int .i64 0, .int .i64 0, .string ⟨#[]⟩, .bool false, .string ⟨#[]⟩, .bool false, .string ⟨#[]⟩, .int .i64 0]) := D
  go_wp2_with fail
  clear r0 rf
  refine (K2.out _ D.out.tk0 D.out.tk1 D.out.tkf).mono ?_
  rintro x w3 ⟨rfl, P⟩
  replace D := Lib.hid (D.out.call P)
  clear P K2
  have r0 : w3.cell? ⟨w.heap.size + 1 + 1, 3, none⟩ = some (.int .i64 0) := D.out.rcd 3 (by omega)
  have rf := D.out.rcdf
  replace D := Lib.hid (D.out.set rfl 3 (by omega) (.int .i64 p))
  replace D : Hid (DecSt w (w3.setCell ⟨w.heap.size + 1 + 1, 3, none⟩ (.int .i64 p)) s3 b3 [.int .i64 k, .int .i64 gsn, .int .i64 t, .int .i64 p, .int .i64 0, .string ⟨#[]⟩, .bool false, .string ⟨#[]⟩, .bool false, .string ⟨#[]⟩, .int .i64 0]) := D
  have g0 : (w3.setCell ⟨w.heap.size + 1 + 1, 3, none⟩ (.int .i64 p)).cell? ⟨w.heap.size + 1 + 1, 0, none⟩ = some (.int .i64 k) := D.out.rcd 0 (by omega)
  go_wp2_with fail
  clear r0 rf
  refine (KC.out _).mono ?_
  rintro x x2 ⟨rfl, rfl⟩
  clear KC
  go_wp2_with fail
  refine (KU.out _).mono ?_
  rintro x x3 ⟨rfl, rfl⟩
  clear KU g0
  go_wp2_with fail
  refine (K3.out _ D.out.tk0 D.out.tk1 D.out.tkf).mono ?_
  rintro x w4 ⟨rfl, P⟩
  replace D := Lib.hid (D.out.call P)
  clear P K3
  have r0 : w4.cell? ⟨w.heap.size + 1 + 1, 10, none⟩ = some (.int .i64 0) := D.out.rcd 10 (by omega)
  have rf := D.out.rcdf
  replace D := Lib.hid (D.out.set rfl 10 (by omega) (.int .i64 u))
  replace D : Hid (DecSt w (w4.setCell ⟨w.heap.size + 1 + 1, 10, none⟩ (.int .i64 u)) ⟨#[]⟩ false [.int .i64 k, .int .i64 gsn, .int .i64 t, .int .i64 p, .int .i64 0, .string ⟨#[]⟩, .bool false, .string ⟨#[]⟩, .bool false, .string ⟨#[]⟩, .int .i64 u]) := D
  have q0 : (w4.setCell ⟨w.heap.size + 1 + 1, 10, none⟩ (.int .i64 u)).cell? ⟨w.heap.size + 1, 0, none⟩ = some (.string ⟨#[]⟩) := D.out.tk0
  have q1 : (w4.setCell ⟨w.heap.size + 1 + 1, 10, none⟩ (.int .i64 u)).cell? ⟨w.heap.size + 1, 1, none⟩ = some (.bool false) := D.out.tk1
  have x0 : (w4.setCell ⟨w.heap.size + 1 + 1, 10, none⟩ (.int .i64 u)).cell? ⟨w.heap.size + 1 + 1, 0, none⟩ = some (.int .i64 k) := D.out.rcd 0 (by omega)
  have x1 : (w4.setCell ⟨w.heap.size + 1 + 1, 10, none⟩ (.int .i64 u)).cell? ⟨w.heap.size + 1 + 1, 1, none⟩ = some (.int .i64 gsn) := D.out.rcd 1 (by omega)
  have x2 : (w4.setCell ⟨w.heap.size + 1 + 1, 10, none⟩ (.int .i64 u)).cell? ⟨w.heap.size + 1 + 1, 2, none⟩ = some (.int .i64 t) := D.out.rcd 2 (by omega)
  have x3 : (w4.setCell ⟨w.heap.size + 1 + 1, 10, none⟩ (.int .i64 u)).cell? ⟨w.heap.size + 1 + 1, 3, none⟩ = some (.int .i64 p) := D.out.rcd 3 (by omega)
  have x4 : (w4.setCell ⟨w.heap.size + 1 + 1, 10, none⟩ (.int .i64 u)).cell? ⟨w.heap.size + 1 + 1, 4, none⟩ = some (.int .i64 0) := D.out.rcd 4 (by omega)
  have x5 : (w4.setCell ⟨w.heap.size + 1 + 1, 10, none⟩ (.int .i64 u)).cell? ⟨w.heap.size + 1 + 1, 5, none⟩ = some (.string ⟨#[]⟩) := D.out.rcd 5 (by omega)
  have x6 : (w4.setCell ⟨w.heap.size + 1 + 1, 10, none⟩ (.int .i64 u)).cell? ⟨w.heap.size + 1 + 1, 6, none⟩ = some (.bool false) := D.out.rcd 6 (by omega)
  have x7 : (w4.setCell ⟨w.heap.size + 1 + 1, 10, none⟩ (.int .i64 u)).cell? ⟨w.heap.size + 1 + 1, 7, none⟩ = some (.string ⟨#[]⟩) := D.out.rcd 7 (by omega)
  have x8 : (w4.setCell ⟨w.heap.size + 1 + 1, 10, none⟩ (.int .i64 u)).cell? ⟨w.heap.size + 1 + 1, 8, none⟩ = some (.bool false) := D.out.rcd 8 (by omega)
  have x9 : (w4.setCell ⟨w.heap.size + 1 + 1, 10, none⟩ (.int .i64 u)).cell? ⟨w.heap.size + 1 + 1, 9, none⟩ = some (.string ⟨#[]⟩) := D.out.rcd 9 (by omega)
  have x10 : (w4.setCell ⟨w.heap.size + 1 + 1, 10, none⟩ (.int .i64 u)).cell? ⟨w.heap.size + 1 + 1, 10, none⟩ = some (.int .i64 u) := D.out.rcd 10 (by omega)
  go_wp2_with fail
  refine (KR.out _ _ ?_).mono ?_
  · exact rcIn_new _ _ _ _ _ _ _ _ _ _ _ _ _ _ (by first | rfl | (simp [World.setCell]; done))
  rintro x wz ⟨rfl, hbz⟩
  have D2 := Lib.hid (D.out.quiet (bw_call hbz (bw_alloc (Below.refl _ _))))
  clear hbz KR
  have y0 : wz.cell? ⟨w.heap.size, 0, none⟩ = some (.int .i64 0) := D2.out.out 0 (by omega)
  have y1 : wz.cell? ⟨w.heap.size, 1, none⟩ = some (.int .i64 0) := D2.out.out 1 (by omega)
  have y2 : wz.cell? ⟨w.heap.size, 2, none⟩ = some (.int .i64 0) := D2.out.out 2 (by omega)
  have y3 : wz.cell? ⟨w.heap.size, 3, none⟩ = some (.int .i64 0) := D2.out.out 3 (by omega)
  have y4 : wz.cell? ⟨w.heap.size, 4, none⟩ = some (.int .i64 0) := D2.out.out 4 (by omega)
  have y5 : wz.cell? ⟨w.heap.size, 5, none⟩ = some (.string ⟨#[]⟩) := D2.out.out 5 (by omega)
  have y6 : wz.cell? ⟨w.heap.size, 6, none⟩ = some (.bool false) := D2.out.out 6 (by omega)
  have y7 : wz.cell? ⟨w.heap.size, 7, none⟩ = some (.string ⟨#[]⟩) := D2.out.out 7 (by omega)
  have y8 : wz.cell? ⟨w.heap.size, 8, none⟩ = some (.bool false) := D2.out.out 8 (by omega)
  have y9 : wz.cell? ⟨w.heap.size, 9, none⟩ = some (.string ⟨#[]⟩) := D2.out.out 9 (by omega)
  have y10 : wz.cell? ⟨w.heap.size, 10, none⟩ = some (.int .i64 0) := D2.out.out 10 (by omega)
  have yf : ∀ i, wz.frozen? ⟨w.heap.size, i, none⟩ = false := D2.out.outf
  go_wp2
  obtain ⟨X, hX, e0, e1, e2, e3, e4, e5, e6, e7, e8, e9, e10, hbX⟩ := set11 (v0 := .int .i64 0) (v1 := .int .i64 0) (v2 := .int .i64 0) (v3 := .int .i64 0) (v4 := .int .i64 0) (v5 := .string ⟨#[]⟩) (v6 := .bool false) (v7 := .string ⟨#[]⟩) (v8 := .bool false) (v9 := .string ⟨#[]⟩) (v10 := .int .i64 0) D2.out.bel (Nat.le_refl _) y0 y1 y2 y3 y4 y5 y6 y7 y8 y9 y10
  rw [← hX]
  refine bodyPost_ret (v := .tuple #[.agg #[.int .i64 0, .int .i64 0, .int .i64 0, .int .i64 0, .int .i64 0, .string ⟨#[]⟩, .bool false, .string ⟨#[]⟩, .bool false, .string ⟨#[]⟩, .int .i64 0], .int .i64 2]) ?_ rfl ⟨rfl, hbX⟩
  simp [results, Tryd.results8, go_sem, e0, e1, e2, e3, e4, e5, e6, e7, e8, e9, e10]

set_option maxRecDepth 100000 in
set_option maxHeartbeats 4000000 in
theorem decode_fu_yes (gsn k t p u : Int) (s s1 s2 s3 s9 : ByteArray) (b1 b2 b3 b9 : Bool) (us : Nat) (w : World) (hs : s.size ≤ 1000) (h0 : numOf s false 1 = (k, s1, b1)) (h1 : numOf s1 b1 4 = (t, s2, b2)) (h2 : numOf s2 b2 8 = (p, s3, b3)) (h3 : numOf s3 b3 (us : Int) = (u, s9, b9)) (hc : (k == 2 || k == 3) = false) (hu : usz k = us) (hus : 0 < us ∧ us ≤ 8) (hF : b9 = false) (hE : s9 = ⟨#[]⟩) (hO : rcOk k gsn t p 0 ⟨#[]⟩ false ⟨#[]⟩ false ⟨#[]⟩ u = true) :
    Calls Tryd.prog 8 #[.int .i64 gsn, .string s] w fun e w' => e = .returned (.tuple #[.agg #[.int .i64 k, .int .i64 gsn, .int .i64 t, .int .i64 p, .int .i64 0, .string ⟨#[]⟩, .bool false, .string ⟨#[]⟩, .bool false, .string ⟨#[]⟩, .int .i64 u], .int .i64 0]) ∧ Below w.heap.size w w' := by
  have K0 := Lib.hid (fun X a0 a1 a2 => number_at (w.heap.size + 1) s false 1 X (by omega) (by omega) a0 a1 a2)
  have z0 : s1.size ≤ 1000 := by have := numOf_rest (s := s) (b := false) (K := 1); rw [h0] at this; exact Nat.le_trans this hs
  rw [h0] at K0
  have K1 := Lib.hid (fun X a0 a1 a2 => number_at (w.heap.size + 1) s1 b1 4 X (by omega) (by omega) a0 a1 a2)
  have z1 : s2.size ≤ 1000 := by have := numOf_rest (s := s1) (b := b1) (K := 4); rw [h1] at this; exact Nat.le_trans this z0
  rw [h1] at K1
  have K2 := Lib.hid (fun X a0 a1 a2 => number_at (w.heap.size + 1) s2 b2 8 X (by omega) (by omega) a0 a1 a2)
  have z2 : s3.size ≤ 1000 := by have := numOf_rest (s := s2) (b := b2) (K := 8); rw [h2] at this; exact Nat.le_trans this z1
  rw [h2] at K2
  have K3 := Lib.hid (fun X a0 a1 a2 => number_at (w.heap.size + 1) s3 b3 (us : Int) X (by omega) (by omega) a0 a1 a2)
  have z3 : s9.size ≤ 1000 := by have := numOf_rest (s := s3) (b := b3) (K := (us : Int)); rw [h3] at this; exact Nat.le_trans this z2
  rw [h3] at K3
  have KC := Lib.hid (fun X => changes_any k X)
  have KU := Lib.hid (fun X => undoSize_any k X)
  rw [hc] at KC
  rw [hu] at KU
  have KR := Lib.hid (right_at k gsn t p 0 u ⟨#[]⟩ ⟨#[]⟩ ⟨#[]⟩ false false)
  rw [hO] at KR
  have hgt : (0 : Int) < (us : Int) := by omega
  have D := Lib.hid (DecSt.start w s gsn 25 44 25)
  clear h0 z0 h1 z1 h2 z2 h3 z3 hc hu hs hus hO
  subst hE
  subst hF
  go_enter Tryd.func8, Tryd.ntmps8
  go_wp2_with fail
  refine (K0.out _ D.out.tk0 D.out.tk1 D.out.tkf).mono ?_
  rintro x w1 ⟨rfl, P⟩
  replace D := Lib.hid (D.out.call P)
  clear P K0
  have r0 : w1.cell? ⟨w.heap.size + 1 + 1, 0, none⟩ = some (.int .i64 0) := D.out.rcd 0 (by omega)
  have rf := D.out.rcdf
  replace D := Lib.hid (D.out.set rfl 0 (by omega) (.int .i64 k))
  replace D : Hid (DecSt w (w1.setCell ⟨w.heap.size + 1 + 1, 0, none⟩ (.int .i64 k)) s1 b1 [.int .i64 k, .int .i64 gsn, .int .i64 0, .int .i64 0, .int .i64 0, .string ⟨#[]⟩, .bool false, .string ⟨#[]⟩, .bool false, .string ⟨#[]⟩, .int .i64 0]) := D
  go_wp2_with fail
  clear r0 rf
  refine (K1.out _ D.out.tk0 D.out.tk1 D.out.tkf).mono ?_
  rintro x w2 ⟨rfl, P⟩
  replace D := Lib.hid (D.out.call P)
  clear P K1
  have r0 : w2.cell? ⟨w.heap.size + 1 + 1, 2, none⟩ = some (.int .i64 0) := D.out.rcd 2 (by omega)
  have rf := D.out.rcdf
  replace D := Lib.hid (D.out.set rfl 2 (by omega) (.int .i64 t))
  replace D : Hid (DecSt w (w2.setCell ⟨w.heap.size + 1 + 1, 2, none⟩ (.int .i64 t)) s2 b2 [.int .i64 k, .int .i64 gsn, .int .i64 t, .int .i64 0, .int .i64 0, .string ⟨#[]⟩, .bool false, .string ⟨#[]⟩, .bool false, .string ⟨#[]⟩, .int .i64 0]) := D
  go_wp2_with fail
  clear r0 rf
  refine (K2.out _ D.out.tk0 D.out.tk1 D.out.tkf).mono ?_
  rintro x w3 ⟨rfl, P⟩
  replace D := Lib.hid (D.out.call P)
  clear P K2
  have r0 : w3.cell? ⟨w.heap.size + 1 + 1, 3, none⟩ = some (.int .i64 0) := D.out.rcd 3 (by omega)
  have rf := D.out.rcdf
  replace D := Lib.hid (D.out.set rfl 3 (by omega) (.int .i64 p))
  replace D : Hid (DecSt w (w3.setCell ⟨w.heap.size + 1 + 1, 3, none⟩ (.int .i64 p)) s3 b3 [.int .i64 k, .int .i64 gsn, .int .i64 t, .int .i64 p, .int .i64 0, .string ⟨#[]⟩, .bool false, .string ⟨#[]⟩, .bool false, .string ⟨#[]⟩, .int .i64 0]) := D
  have g0 : (w3.setCell ⟨w.heap.size + 1 + 1, 3, none⟩ (.int .i64 p)).cell? ⟨w.heap.size + 1 + 1, 0, none⟩ = some (.int .i64 k) := D.out.rcd 0 (by omega)
  go_wp2_with fail
  clear r0 rf
  refine (KC.out _).mono ?_
  rintro x x2 ⟨rfl, rfl⟩
  clear KC
  go_wp2_with fail
  refine (KU.out _).mono ?_
  rintro x x3 ⟨rfl, rfl⟩
  clear KU g0
  go_wp2_with fail
  refine (K3.out _ D.out.tk0 D.out.tk1 D.out.tkf).mono ?_
  rintro x w4 ⟨rfl, P⟩
  replace D := Lib.hid (D.out.call P)
  clear P K3
  have r0 : w4.cell? ⟨w.heap.size + 1 + 1, 10, none⟩ = some (.int .i64 0) := D.out.rcd 10 (by omega)
  have rf := D.out.rcdf
  replace D := Lib.hid (D.out.set rfl 10 (by omega) (.int .i64 u))
  replace D : Hid (DecSt w (w4.setCell ⟨w.heap.size + 1 + 1, 10, none⟩ (.int .i64 u)) ⟨#[]⟩ false [.int .i64 k, .int .i64 gsn, .int .i64 t, .int .i64 p, .int .i64 0, .string ⟨#[]⟩, .bool false, .string ⟨#[]⟩, .bool false, .string ⟨#[]⟩, .int .i64 u]) := D
  have q0 : (w4.setCell ⟨w.heap.size + 1 + 1, 10, none⟩ (.int .i64 u)).cell? ⟨w.heap.size + 1, 0, none⟩ = some (.string ⟨#[]⟩) := D.out.tk0
  have q1 : (w4.setCell ⟨w.heap.size + 1 + 1, 10, none⟩ (.int .i64 u)).cell? ⟨w.heap.size + 1, 1, none⟩ = some (.bool false) := D.out.tk1
  have x0 : (w4.setCell ⟨w.heap.size + 1 + 1, 10, none⟩ (.int .i64 u)).cell? ⟨w.heap.size + 1 + 1, 0, none⟩ = some (.int .i64 k) := D.out.rcd 0 (by omega)
  have x1 : (w4.setCell ⟨w.heap.size + 1 + 1, 10, none⟩ (.int .i64 u)).cell? ⟨w.heap.size + 1 + 1, 1, none⟩ = some (.int .i64 gsn) := D.out.rcd 1 (by omega)
  have x2 : (w4.setCell ⟨w.heap.size + 1 + 1, 10, none⟩ (.int .i64 u)).cell? ⟨w.heap.size + 1 + 1, 2, none⟩ = some (.int .i64 t) := D.out.rcd 2 (by omega)
  have x3 : (w4.setCell ⟨w.heap.size + 1 + 1, 10, none⟩ (.int .i64 u)).cell? ⟨w.heap.size + 1 + 1, 3, none⟩ = some (.int .i64 p) := D.out.rcd 3 (by omega)
  have x4 : (w4.setCell ⟨w.heap.size + 1 + 1, 10, none⟩ (.int .i64 u)).cell? ⟨w.heap.size + 1 + 1, 4, none⟩ = some (.int .i64 0) := D.out.rcd 4 (by omega)
  have x5 : (w4.setCell ⟨w.heap.size + 1 + 1, 10, none⟩ (.int .i64 u)).cell? ⟨w.heap.size + 1 + 1, 5, none⟩ = some (.string ⟨#[]⟩) := D.out.rcd 5 (by omega)
  have x6 : (w4.setCell ⟨w.heap.size + 1 + 1, 10, none⟩ (.int .i64 u)).cell? ⟨w.heap.size + 1 + 1, 6, none⟩ = some (.bool false) := D.out.rcd 6 (by omega)
  have x7 : (w4.setCell ⟨w.heap.size + 1 + 1, 10, none⟩ (.int .i64 u)).cell? ⟨w.heap.size + 1 + 1, 7, none⟩ = some (.string ⟨#[]⟩) := D.out.rcd 7 (by omega)
  have x8 : (w4.setCell ⟨w.heap.size + 1 + 1, 10, none⟩ (.int .i64 u)).cell? ⟨w.heap.size + 1 + 1, 8, none⟩ = some (.bool false) := D.out.rcd 8 (by omega)
  have x9 : (w4.setCell ⟨w.heap.size + 1 + 1, 10, none⟩ (.int .i64 u)).cell? ⟨w.heap.size + 1 + 1, 9, none⟩ = some (.string ⟨#[]⟩) := D.out.rcd 9 (by omega)
  have x10 : (w4.setCell ⟨w.heap.size + 1 + 1, 10, none⟩ (.int .i64 u)).cell? ⟨w.heap.size + 1 + 1, 10, none⟩ = some (.int .i64 u) := D.out.rcd 10 (by omega)
  go_wp2_with fail
  refine (KR.out _ _ ?_).mono ?_
  · exact rcIn_new _ _ _ _ _ _ _ _ _ _ _ _ _ _ (by first | rfl | (simp [World.setCell]; done))
  rintro x wz ⟨rfl, hbz⟩
  have D2 := Lib.hid (D.out.quiet (bw_call hbz (bw_alloc (Below.refl _ _))))
  clear hbz KR
  have u0 : wz.cell? ⟨w.heap.size + 1 + 1, 0, none⟩ = some (.int .i64 k) := D2.out.rcd 0 (by omega)
  have u1 : wz.cell? ⟨w.heap.size + 1 + 1, 1, none⟩ = some (.int .i64 gsn) := D2.out.rcd 1 (by omega)
  have u2 : wz.cell? ⟨w.heap.size + 1 + 1, 2, none⟩ = some (.int .i64 t) := D2.out.rcd 2 (by omega)
  have u3 : wz.cell? ⟨w.heap.size + 1 + 1, 3, none⟩ = some (.int .i64 p) := D2.out.rcd 3 (by omega)
  have u4 : wz.cell? ⟨w.heap.size + 1 + 1, 4, none⟩ = some (.int .i64 0) := D2.out.rcd 4 (by omega)
  have u5 : wz.cell? ⟨w.heap.size + 1 + 1, 5, none⟩ = some (.string ⟨#[]⟩) := D2.out.rcd 5 (by omega)
  have u6 : wz.cell? ⟨w.heap.size + 1 + 1, 6, none⟩ = some (.bool false) := D2.out.rcd 6 (by omega)
  have u7 : wz.cell? ⟨w.heap.size + 1 + 1, 7, none⟩ = some (.string ⟨#[]⟩) := D2.out.rcd 7 (by omega)
  have u8 : wz.cell? ⟨w.heap.size + 1 + 1, 8, none⟩ = some (.bool false) := D2.out.rcd 8 (by omega)
  have u9 : wz.cell? ⟨w.heap.size + 1 + 1, 9, none⟩ = some (.string ⟨#[]⟩) := D2.out.rcd 9 (by omega)
  have u10 : wz.cell? ⟨w.heap.size + 1 + 1, 10, none⟩ = some (.int .i64 u) := D2.out.rcd 10 (by omega)
  have y0 : wz.cell? ⟨w.heap.size, 0, none⟩ = some (.int .i64 0) := D2.out.out 0 (by omega)
  have y1 : wz.cell? ⟨w.heap.size, 1, none⟩ = some (.int .i64 0) := D2.out.out 1 (by omega)
  have y2 : wz.cell? ⟨w.heap.size, 2, none⟩ = some (.int .i64 0) := D2.out.out 2 (by omega)
  have y3 : wz.cell? ⟨w.heap.size, 3, none⟩ = some (.int .i64 0) := D2.out.out 3 (by omega)
  have y4 : wz.cell? ⟨w.heap.size, 4, none⟩ = some (.int .i64 0) := D2.out.out 4 (by omega)
  have y5 : wz.cell? ⟨w.heap.size, 5, none⟩ = some (.string ⟨#[]⟩) := D2.out.out 5 (by omega)
  have y6 : wz.cell? ⟨w.heap.size, 6, none⟩ = some (.bool false) := D2.out.out 6 (by omega)
  have y7 : wz.cell? ⟨w.heap.size, 7, none⟩ = some (.string ⟨#[]⟩) := D2.out.out 7 (by omega)
  have y8 : wz.cell? ⟨w.heap.size, 8, none⟩ = some (.bool false) := D2.out.out 8 (by omega)
  have y9 : wz.cell? ⟨w.heap.size, 9, none⟩ = some (.string ⟨#[]⟩) := D2.out.out 9 (by omega)
  have y10 : wz.cell? ⟨w.heap.size, 10, none⟩ = some (.int .i64 0) := D2.out.out 10 (by omega)
  have yf : ∀ i, wz.frozen? ⟨w.heap.size, i, none⟩ = false := D2.out.outf
  go_wp2
  obtain ⟨X, hX, e0, e1, e2, e3, e4, e5, e6, e7, e8, e9, e10, hbX⟩ := set11 (v0 := .int .i64 k) (v1 := .int .i64 gsn) (v2 := .int .i64 t) (v3 := .int .i64 p) (v4 := .int .i64 0) (v5 := .string ⟨#[]⟩) (v6 := .bool false) (v7 := .string ⟨#[]⟩) (v8 := .bool false) (v9 := .string ⟨#[]⟩) (v10 := .int .i64 u) D2.out.bel (Nat.le_refl _) y0 y1 y2 y3 y4 y5 y6 y7 y8 y9 y10
  rw [← hX]
  refine bodyPost_ret (v := .tuple #[.agg #[.int .i64 k, .int .i64 gsn, .int .i64 t, .int .i64 p, .int .i64 0, .string ⟨#[]⟩, .bool false, .string ⟨#[]⟩, .bool false, .string ⟨#[]⟩, .int .i64 u], .int .i64 0]) ?_ rfl ⟨rfl, hbX⟩
  simp [results, Tryd.results8, go_sem, e0, e1, e2, e3, e4, e5, e6, e7, e8, e9, e10]
end Go.Proofs.YtlggbbaigcnpjaaDoor
