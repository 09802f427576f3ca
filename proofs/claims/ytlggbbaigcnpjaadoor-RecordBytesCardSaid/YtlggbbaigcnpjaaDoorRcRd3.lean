/-
  THE WALK OF quadrigaref04.Decode, of kind 3.
-/
import Derived.Test.YtlggbbaigcnpjaaDoorRcRd
namespace Go.Proofs.YtlggbbaigcnpjaaDoor
open Go.RowKit
set_option linter.unusedVariables false

set_option maxRecDepth 100000 in
set_option maxHeartbeats 4000000 in
theorem refDecode_3ff_wrong (gsn t p pg u : Int) (s key : ByteArray) (m a1 a2 I1 I2 I3 : Nat) (w : World) (hs : s.size ≤ 1000) (h0 : (atOf s 0 : Int) = 3) (h1 : (rtOf (cutOf s 1 4) 4 : Int) = t) (h2 : (rtOf (cutOf s 5 8) 8 : Int) = p) (h3 : (atOf s 13 : Int) = pg) (h4 : atOf s 14 = m) (h5 : cutOf s 15 m = key) (hm : m ≤ 2000) (h6 : atOf s I1 = a1) (h8 : atOf s I2 = a2) (b1 : I1 ≤ 2000) (b2 : I2 ≤ 2000) (b3 : I3 ≤ 2000) (q2 : wrap64 (15 + (m : Int)) = (I1 : Int)) (q4 : wrap64 ((I1 : Int) + 1) = (I2 : Int)) (q6 : wrap64 ((I2 : Int) + 1) = (I3 : Int)) (q7 : max (a1 : Int) 1 = 1) (q8 : max (a2 : Int) 1 = 1) (f1 : (a1 : Int) ≤ 0) (f2 : (a2 : Int) ≤ 0) (hu : (rtOf (cutOf s I3 8) 8 : Int) = u) (hO : rcOk 3 gsn t p pg key false ⟨#[]⟩ false ⟨#[]⟩ u = false) :
    Calls Tryd.prog 9 #[.int .i64 gsn, .string s] w fun e w' => e = .returned (.tuple #[.agg #[.int .i64 0, .int .i64 0, .int .i64 0, .int .i64 0, .int .i64 0, .string ⟨#[]⟩, .bool false, .string ⟨#[]⟩, .bool false, .string ⟨#[]⟩, .int .i64 0], .bool false]) ∧ Below w.heap.size w w' := by
  have A0 := Lib.hid (fun W => refAt_any s 0 W hs (by decide))
  rw [h0, show ((0 : Nat) : Int) = (0 : Int) from rfl] at A0
  have C1 := Lib.hid (fun W => refCut_any s 1 4 W hs (by decide) (by decide))
  rw [show ((1 : Nat) : Int) = (1 : Int) from rfl, show ((4 : Nat) : Int) = (4 : Int) from rfl] at C1
  have C5 := Lib.hid (fun W => refCut_any s 5 8 W hs (by decide) (by decide))
  rw [show ((5 : Nat) : Int) = (5 : Int) from rfl, show ((8 : Nat) : Int) = (8 : Int) from rfl] at C5
  have T4 := Lib.hid (fun W => refTake_at (cutOf s 1 4) 4 W (by decide) (Nat.le_trans (cutOf_size s 1 4) (Nat.le_trans hs (by decide))))
  have T8 := Lib.hid (fun W => refTake_at (cutOf s 5 8) 8 W (by decide) (Nat.le_trans (cutOf_size s 5 8) (Nat.le_trans hs (by decide))))
  rw [h1] at T4
  rw [h2] at T8
  generalize cutOf s 1 4 = x1 at C1 T4
  generalize cutOf s 5 8 = x5 at C5 T8
  generalize rtOk x1 4 = y1 at T4
  generalize rtOk x5 8 = y5 at T8
  have A13 := Lib.hid (fun W => refAt_any s 13 W hs (by decide))
  rw [h3, show ((13 : Nat) : Int) = (13 : Int) from rfl] at A13
  have A14 := Lib.hid (fun W => refAt_any s 14 W hs (by decide))
  rw [h4, show ((14 : Nat) : Int) = (14 : Int) from rfl] at A14
  have C15 := Lib.hid (fun W => refCut_any s 15 m W hs (by decide) hm)
  rw [h5, show ((15 : Nat) : Int) = (15 : Int) from rfl] at C15
  have B1 := Lib.hid (fun W => refAt_any s I1 W hs b1)
  rw [h6] at B1
  have B2 := Lib.hid (fun W => refAt_any s I2 W hs b2)
  rw [h8] at B2
  have CU := Lib.hid (fun W => refCut_any s I3 8 W hs b3 (by decide))
  rw [show ((8 : Nat) : Int) = (8 : Int) from rfl] at CU
  have TU := Lib.hid (fun W => refTake_at (cutOf s I3 8) 8 W (by decide) (Nat.le_trans (cutOf_size s I3 8) (Nat.le_trans hs (by decide))))
  rw [hu] at TU
  generalize cutOf s I3 8 = xu at CU TU
  generalize rtOk xu 8 = yu at TU
  have KP := Lib.hid (fun W => page_any 3 W)
  have KR := Lib.hid (fun W => refRight_any 3 gsn t p pg u key ⟨#[]⟩ ⟨#[]⟩ false false W)
  rw [hO] at KR
  clear hs h0 h1 h2 h3 h4 h5 h6 h8 hO hm b1 b2 b3 hu
  go_enter Tryd.func9, Tryd.ntmps9
  go_wp2_with fail
  refine (A0.out _).mono ?_
  rintro x w1 ⟨rfl, rfl⟩
  go_wp2_with fail
  refine (C1.out _).mono ?_
  rintro x w1 ⟨rfl, rfl⟩
  go_wp2_with fail
  refine (T4.out _).mono ?_
  rintro x w1 ⟨rfl, rfl⟩
  go_wp2_with fail
  refine (C5.out _).mono ?_
  rintro x w1 ⟨rfl, rfl⟩
  go_wp2_with fail
  refine (T8.out _).mono ?_
  rintro x w1 ⟨rfl, rfl⟩
  go_wp2_with fail
  refine (KP.out _).mono ?_
  rintro x w1 ⟨rfl, rfl⟩
  go_wp2_with fail
  refine (A13.out _).mono ?_
  rintro x w1 ⟨rfl, rfl⟩
  go_wp2_with fail
  refine (A14.out _).mono ?_
  rintro x w1 ⟨rfl, rfl⟩
  go_wp2_with fail
  refine (C15.out _).mono ?_
  rintro x w1 ⟨rfl, rfl⟩
  go_wp2_with fail
  refine (A14.out _).mono ?_
  rintro x w1 ⟨rfl, rfl⟩
  go_wp2_with fail
  refine (B1.out _).mono ?_
  rintro x w1 ⟨rfl, rfl⟩
  go_wp2_with fail
  refine (B1.out _).mono ?_
  rintro x w1 ⟨rfl, rfl⟩
  go_wp2_with fail
  refine (B2.out _).mono ?_
  rintro x w1 ⟨rfl, rfl⟩
  go_wp2_with fail
  refine (B2.out _).mono ?_
  rintro x w1 ⟨rfl, rfl⟩
  go_wp2_with fail
  refine (CU.out _).mono ?_
  rintro x w1 ⟨rfl, rfl⟩
  go_wp2_with fail
  refine (TU.out _).mono ?_
  rintro x w1 ⟨rfl, rfl⟩
  go_wp2_with fail
  refine (KR.out _).mono ?_
  rintro x w5 ⟨rfl, hb5⟩
  have r0 : w5.cell? ⟨w.heap.size + 1, 0, none⟩ = some (.int .i64 3) := keep_cell hb5 (new_cell (by rw [World.size_alloc]) rfl)
  have r1 : w5.cell? ⟨w.heap.size + 1, 1, none⟩ = some (.int .i64 gsn) := keep_cell hb5 (new_cell (by rw [World.size_alloc]) rfl)
  have r2 : w5.cell? ⟨w.heap.size + 1, 2, none⟩ = some (.int .i64 t) := keep_cell hb5 (new_cell (by rw [World.size_alloc]) rfl)
  have r3 : w5.cell? ⟨w.heap.size + 1, 3, none⟩ = some (.int .i64 p) := keep_cell hb5 (new_cell (by rw [World.size_alloc]) rfl)
  have r4 : w5.cell? ⟨w.heap.size + 1, 4, none⟩ = some (.int .i64 pg) := keep_cell hb5 (new_cell (by rw [World.size_alloc]) rfl)
  have r5 : w5.cell? ⟨w.heap.size + 1, 5, none⟩ = some (.string key) := keep_cell hb5 (new_cell (by rw [World.size_alloc]) rfl)
  have r6 : w5.cell? ⟨w.heap.size + 1, 6, none⟩ = some (.bool false) := keep_cell hb5 (new_cell (by rw [World.size_alloc]) rfl)
  have r7 : w5.cell? ⟨w.heap.size + 1, 7, none⟩ = some (.string ⟨#[]⟩) := keep_cell hb5 (new_cell (by rw [World.size_alloc]) rfl)
  have r8 : w5.cell? ⟨w.heap.size + 1, 8, none⟩ = some (.bool false) := keep_cell hb5 (new_cell (by rw [World.size_alloc]) rfl)
  have r9 : w5.cell? ⟨w.heap.size + 1, 9, none⟩ = some (.string ⟨#[]⟩) := keep_cell hb5 (new_cell (by rw [World.size_alloc]) rfl)
  have r10 : w5.cell? ⟨w.heap.size + 1, 10, none⟩ = some (.int .i64 u) := keep_cell hb5 (new_cell (by rw [World.size_alloc]) rfl)
  have y0 : w5.cell? ⟨w.heap.size, 0, none⟩ = some (.int .i64 0) := keep_cell hb5 (keep_alloc (new_cell rfl rfl))
  have y1 : w5.cell? ⟨w.heap.size, 1, none⟩ = some (.int .i64 0) := keep_cell hb5 (keep_alloc (new_cell rfl rfl))
  have y2 : w5.cell? ⟨w.heap.size, 2, none⟩ = some (.int .i64 0) := keep_cell hb5 (keep_alloc (new_cell rfl rfl))
  have y3 : w5.cell? ⟨w.heap.size, 3, none⟩ = some (.int .i64 0) := keep_cell hb5 (keep_alloc (new_cell rfl rfl))
  have y4 : w5.cell? ⟨w.heap.size, 4, none⟩ = some (.int .i64 0) := keep_cell hb5 (keep_alloc (new_cell rfl rfl))
  have y5 : w5.cell? ⟨w.heap.size, 5, none⟩ = some (.string ⟨#[]⟩) := keep_cell hb5 (keep_alloc (new_cell rfl rfl))
  have y6 : w5.cell? ⟨w.heap.size, 6, none⟩ = some (.bool false) := keep_cell hb5 (keep_alloc (new_cell rfl rfl))
  have y7 : w5.cell? ⟨w.heap.size, 7, none⟩ = some (.string ⟨#[]⟩) := keep_cell hb5 (keep_alloc (new_cell rfl rfl))
  have y8 : w5.cell? ⟨w.heap.size, 8, none⟩ = some (.bool false) := keep_cell hb5 (keep_alloc (new_cell rfl rfl))
  have y9 : w5.cell? ⟨w.heap.size, 9, none⟩ = some (.string ⟨#[]⟩) := keep_cell hb5 (keep_alloc (new_cell rfl rfl))
  have y10 : w5.cell? ⟨w.heap.size, 10, none⟩ = some (.int .i64 0) := keep_cell hb5 (keep_alloc (new_cell rfl rfl))
  have yf : ∀ i, w5.frozen? ⟨w.heap.size, i, none⟩ = false := fun i => by
    refine (hb5.frozen (p := ⟨w.heap.size, i, none⟩) (by simp only [World.size_alloc]; omega)).trans ?_
    rw [World.frozen?_alloc_past _ _ _ (by rw [World.size_alloc]; omega)]
    exact World.frozen?_alloc_at _ _ _ _ rfl
  have hbw : Below w.heap.size w w5 := bw_call hb5 (bw_alloc (bw_alloc (Below.refl _ _)))
  clear hb5 KR
  go_wp2
  obtain ⟨X, hX, e20, e21, e22, e23, e24, e25, e26, e27, e28, e29, e30, hbX⟩ := set11 (v0 := .int .i64 0) (v1 := .int .i64 0) (v2 := .int .i64 0) (v3 := .int .i64 0) (v4 := .int .i64 0) (v5 := .string ⟨#[]⟩) (v6 := .bool false) (v7 := .string ⟨#[]⟩) (v8 := .bool false) (v9 := .string ⟨#[]⟩) (v10 := .int .i64 0) hbw (Nat.le_refl _) y0 y1 y2 y3 y4 y5 y6 y7 y8 y9 y10
  rw [← hX]
  refine bodyPost_ret (v := .tuple #[.agg #[.int .i64 0, .int .i64 0, .int .i64 0, .int .i64 0, .int .i64 0, .string ⟨#[]⟩, .bool false, .string ⟨#[]⟩, .bool false, .string ⟨#[]⟩, .int .i64 0], .bool false]) ?_ rfl ⟨rfl, hbX⟩
  simp [results, Tryd.results9, go_sem, e20, e21, e22, e23, e24, e25, e26, e27, e28, e29, e30]

set_option maxRecDepth 100000 in
set_option maxHeartbeats 4000000 in
theorem refDecode_3ff_other (gsn t p pg u : Int) (s key : ByteArray) (m a1 a2 I1 I2 I3 : Nat) (w : World) (hs : s.size ≤ 1000) (h0 : (atOf s 0 : Int) = 3) (h1 : (rtOf (cutOf s 1 4) 4 : Int) = t) (h2 : (rtOf (cutOf s 5 8) 8 : Int) = p) (h3 : (atOf s 13 : Int) = pg) (h4 : atOf s 14 = m) (h5 : cutOf s 15 m = key) (hm : m ≤ 2000) (h6 : atOf s I1 = a1) (h8 : atOf s I2 = a2) (b1 : I1 ≤ 2000) (b2 : I2 ≤ 2000) (b3 : I3 ≤ 2000) (q2 : wrap64 (15 + (m : Int)) = (I1 : Int)) (q4 : wrap64 ((I1 : Int) + 1) = (I2 : Int)) (q6 : wrap64 ((I2 : Int) + 1) = (I3 : Int)) (q7 : max (a1 : Int) 1 = 1) (q8 : max (a2 : Int) 1 = 1) (f1 : (a1 : Int) ≤ 0) (f2 : (a2 : Int) ≤ 0) (hu : (rtOf (cutOf s I3 8) 8 : Int) = u) (hO : rcOk 3 gsn t p pg key false ⟨#[]⟩ false ⟨#[]⟩ u = true) (hE : ¬ encStr 3 t p pg key false ⟨#[]⟩ false ⟨#[]⟩ u = s) :
    Calls Tryd.prog 9 #[.int .i64 gsn, .string s] w fun e w' => e = .returned (.tuple #[.agg #[.int .i64 0, .int .i64 0, .int .i64 0, .int .i64 0, .int .i64 0, .string ⟨#[]⟩, .bool false, .string ⟨#[]⟩, .bool false, .string ⟨#[]⟩, .int .i64 0], .bool false]) ∧ Below w.heap.size w w' := by
  have A0 := Lib.hid (fun W => refAt_any s 0 W hs (by decide))
  rw [h0, show ((0 : Nat) : Int) = (0 : Int) from rfl] at A0
  have C1 := Lib.hid (fun W => refCut_any s 1 4 W hs (by decide) (by decide))
  rw [show ((1 : Nat) : Int) = (1 : Int) from rfl, show ((4 : Nat) : Int) = (4 : Int) from rfl] at C1
  have C5 := Lib.hid (fun W => refCut_any s 5 8 W hs (by decide) (by decide))
  rw [show ((5 : Nat) : Int) = (5 : Int) from rfl, show ((8 : Nat) : Int) = (8 : Int) from rfl] at C5
  have T4 := Lib.hid (fun W => refTake_at (cutOf s 1 4) 4 W (by decide) (Nat.le_trans (cutOf_size s 1 4) (Nat.le_trans hs (by decide))))
  have T8 := Lib.hid (fun W => refTake_at (cutOf s 5 8) 8 W (by decide) (Nat.le_trans (cutOf_size s 5 8) (Nat.le_trans hs (by decide))))
  rw [h1] at T4
  rw [h2] at T8
  generalize cutOf s 1 4 = x1 at C1 T4
  generalize cutOf s 5 8 = x5 at C5 T8
  generalize rtOk x1 4 = y1 at T4
  generalize rtOk x5 8 = y5 at T8
  have A13 := Lib.hid (fun W => refAt_any s 13 W hs (by decide))
  rw [h3, show ((13 : Nat) : Int) = (13 : Int) from rfl] at A13
  have A14 := Lib.hid (fun W => refAt_any s 14 W hs (by decide))
  rw [h4, show ((14 : Nat) : Int) = (14 : Int) from rfl] at A14
  have C15 := Lib.hid (fun W => refCut_any s 15 m W hs (by decide) hm)
  rw [h5, show ((15 : Nat) : Int) = (15 : Int) from rfl] at C15
  have B1 := Lib.hid (fun W => refAt_any s I1 W hs b1)
  rw [h6] at B1
  have B2 := Lib.hid (fun W => refAt_any s I2 W hs b2)
  rw [h8] at B2
  have CU := Lib.hid (fun W => refCut_any s I3 8 W hs b3 (by decide))
  rw [show ((8 : Nat) : Int) = (8 : Int) from rfl] at CU
  have TU := Lib.hid (fun W => refTake_at (cutOf s I3 8) 8 W (by decide) (Nat.le_trans (cutOf_size s I3 8) (Nat.le_trans hs (by decide))))
  rw [hu] at TU
  generalize cutOf s I3 8 = xu at CU TU
  generalize rtOk xu 8 = yu at TU
  have KP := Lib.hid (fun W => page_any 3 W)
  have KR := Lib.hid (fun W => refRight_any 3 gsn t p pg u key ⟨#[]⟩ ⟨#[]⟩ false false W)
  rw [hO] at KR
  have KE := Lib.hid (fun W => refEncode_any 3 gsn t p pg u key ⟨#[]⟩ ⟨#[]⟩ false false W hO)
  generalize encStr 3 t p pg key false ⟨#[]⟩ false ⟨#[]⟩ u = E at KE hE
  have hne : (E.toList == s.toList) = false := by rw [beq_eq_false_iff_ne]; exact fun e => hE (ba_ext (by rw [← ByteArray.toList_eq, ← ByteArray.toList_eq]; exact e))
  clear hs h0 h1 h2 h3 h4 h5 h6 h8 hO hm b1 b2 b3 hu hE
  go_enter Tryd.func9, Tryd.ntmps9
  go_wp2_with fail
  refine (A0.out _).mono ?_
  rintro x w1 ⟨rfl, rfl⟩
  go_wp2_with fail
  refine (C1.out _).mono ?_
  rintro x w1 ⟨rfl, rfl⟩
  go_wp2_with fail
  refine (T4.out _).mono ?_
  rintro x w1 ⟨rfl, rfl⟩
  go_wp2_with fail
  refine (C5.out _).mono ?_
  rintro x w1 ⟨rfl, rfl⟩
  go_wp2_with fail
  refine (T8.out _).mono ?_
  rintro x w1 ⟨rfl, rfl⟩
  go_wp2_with fail
  refine (KP.out _).mono ?_
  rintro x w1 ⟨rfl, rfl⟩
  go_wp2_with fail
  refine (A13.out _).mono ?_
  rintro x w1 ⟨rfl, rfl⟩
  go_wp2_with fail
  refine (A14.out _).mono ?_
  rintro x w1 ⟨rfl, rfl⟩
  go_wp2_with fail
  refine (C15.out _).mono ?_
  rintro x w1 ⟨rfl, rfl⟩
  go_wp2_with fail
  refine (A14.out _).mono ?_
  rintro x w1 ⟨rfl, rfl⟩
  go_wp2_with fail
  refine (B1.out _).mono ?_
  rintro x w1 ⟨rfl, rfl⟩
  go_wp2_with fail
  refine (B1.out _).mono ?_
  rintro x w1 ⟨rfl, rfl⟩
  go_wp2_with fail
  refine (B2.out _).mono ?_
  rintro x w1 ⟨rfl, rfl⟩
  go_wp2_with fail
  refine (B2.out _).mono ?_
  rintro x w1 ⟨rfl, rfl⟩
  go_wp2_with fail
  refine (CU.out _).mono ?_
  rintro x w1 ⟨rfl, rfl⟩
  go_wp2_with fail
  refine (TU.out _).mono ?_
  rintro x w1 ⟨rfl, rfl⟩
  go_wp2_with fail
  refine (KR.out _).mono ?_
  rintro x w5 ⟨rfl, hb5⟩
  have r0 : w5.cell? ⟨w.heap.size + 1, 0, none⟩ = some (.int .i64 3) := keep_cell hb5 (new_cell (by rw [World.size_alloc]) rfl)
  have r1 : w5.cell? ⟨w.heap.size + 1, 1, none⟩ = some (.int .i64 gsn) := keep_cell hb5 (new_cell (by rw [World.size_alloc]) rfl)
  have r2 : w5.cell? ⟨w.heap.size + 1, 2, none⟩ = some (.int .i64 t) := keep_cell hb5 (new_cell (by rw [World.size_alloc]) rfl)
  have r3 : w5.cell? ⟨w.heap.size + 1, 3, none⟩ = some (.int .i64 p) := keep_cell hb5 (new_cell (by rw [World.size_alloc]) rfl)
  have r4 : w5.cell? ⟨w.heap.size + 1, 4, none⟩ = some (.int .i64 pg) := keep_cell hb5 (new_cell (by rw [World.size_alloc]) rfl)
  have r5 : w5.cell? ⟨w.heap.size + 1, 5, none⟩ = some (.string key) := keep_cell hb5 (new_cell (by rw [World.size_alloc]) rfl)
  have r6 : w5.cell? ⟨w.heap.size + 1, 6, none⟩ = some (.bool false) := keep_cell hb5 (new_cell (by rw [World.size_alloc]) rfl)
  have r7 : w5.cell? ⟨w.heap.size + 1, 7, none⟩ = some (.string ⟨#[]⟩) := keep_cell hb5 (new_cell (by rw [World.size_alloc]) rfl)
  have r8 : w5.cell? ⟨w.heap.size + 1, 8, none⟩ = some (.bool false) := keep_cell hb5 (new_cell (by rw [World.size_alloc]) rfl)
  have r9 : w5.cell? ⟨w.heap.size + 1, 9, none⟩ = some (.string ⟨#[]⟩) := keep_cell hb5 (new_cell (by rw [World.size_alloc]) rfl)
  have r10 : w5.cell? ⟨w.heap.size + 1, 10, none⟩ = some (.int .i64 u) := keep_cell hb5 (new_cell (by rw [World.size_alloc]) rfl)
  have y0 : w5.cell? ⟨w.heap.size, 0, none⟩ = some (.int .i64 0) := keep_cell hb5 (keep_alloc (new_cell rfl rfl))
  have y1 : w5.cell? ⟨w.heap.size, 1, none⟩ = some (.int .i64 0) := keep_cell hb5 (keep_alloc (new_cell rfl rfl))
  have y2 : w5.cell? ⟨w.heap.size, 2, none⟩ = some (.int .i64 0) := keep_cell hb5 (keep_alloc (new_cell rfl rfl))
  have y3 : w5.cell? ⟨w.heap.size, 3, none⟩ = some (.int .i64 0) := keep_cell hb5 (keep_alloc (new_cell rfl rfl))
  have y4 : w5.cell? ⟨w.heap.size, 4, none⟩ = some (.int .i64 0) := keep_cell hb5 (keep_alloc (new_cell rfl rfl))
  have y5 : w5.cell? ⟨w.heap.size, 5, none⟩ = some (.string ⟨#[]⟩) := keep_cell hb5 (keep_alloc (new_cell rfl rfl))
  have y6 : w5.cell? ⟨w.heap.size, 6, none⟩ = some (.bool false) := keep_cell hb5 (keep_alloc (new_cell rfl rfl))
  have y7 : w5.cell? ⟨w.heap.size, 7, none⟩ = some (.string ⟨#[]⟩) := keep_cell hb5 (keep_alloc (new_cell rfl rfl))
  have y8 : w5.cell? ⟨w.heap.size, 8, none⟩ = some (.bool false) := keep_cell hb5 (keep_alloc (new_cell rfl rfl))
  have y9 : w5.cell? ⟨w.heap.size, 9, none⟩ = some (.string ⟨#[]⟩) := keep_cell hb5 (keep_alloc (new_cell rfl rfl))
  have y10 : w5.cell? ⟨w.heap.size, 10, none⟩ = some (.int .i64 0) := keep_cell hb5 (keep_alloc (new_cell rfl rfl))
  have yf : ∀ i, w5.frozen? ⟨w.heap.size, i, none⟩ = false := fun i => by
    refine (hb5.frozen (p := ⟨w.heap.size, i, none⟩) (by simp only [World.size_alloc]; omega)).trans ?_
    rw [World.frozen?_alloc_past _ _ _ (by rw [World.size_alloc]; omega)]
    exact World.frozen?_alloc_at _ _ _ _ rfl
  have hbw : Below w.heap.size w w5 := bw_call hb5 (bw_alloc (bw_alloc (Below.refl _ _)))
  clear hb5 KR
  go_wp2_with fail
  refine (KE.out _).mono ?_
  rintro x w6 ⟨rfl, hb6⟩
  replace r0 := keep_cell hb6 r0
  replace r1 := keep_cell hb6 r1
  replace r2 := keep_cell hb6 r2
  replace r3 := keep_cell hb6 r3
  replace r4 := keep_cell hb6 r4
  replace r5 := keep_cell hb6 r5
  replace r6 := keep_cell hb6 r6
  replace r7 := keep_cell hb6 r7
  replace r8 := keep_cell hb6 r8
  replace r9 := keep_cell hb6 r9
  replace r10 := keep_cell hb6 r10
  replace yf : ∀ i, w6.frozen? ⟨w.heap.size, i, none⟩ = false := fun i => (hb6.frozen (p := ⟨w.heap.size, i, none⟩) (block_lt (p := ⟨w.heap.size, 0, none⟩) y0)).trans (yf i)
  replace y0 := keep_cell hb6 y0
  replace y1 := keep_cell hb6 y1
  replace y2 := keep_cell hb6 y2
  replace y3 := keep_cell hb6 y3
  replace y4 := keep_cell hb6 y4
  replace y5 := keep_cell hb6 y5
  replace y6 := keep_cell hb6 y6
  replace y7 := keep_cell hb6 y7
  replace y8 := keep_cell hb6 y8
  replace y9 := keep_cell hb6 y9
  replace y10 := keep_cell hb6 y10
  replace hbw := bw_call hb6 hbw
  clear hb6 KE
  go_wp2
  obtain ⟨X, hX, e20, e21, e22, e23, e24, e25, e26, e27, e28, e29, e30, hbX⟩ := set11 (v0 := .int .i64 0) (v1 := .int .i64 0) (v2 := .int .i64 0) (v3 := .int .i64 0) (v4 := .int .i64 0) (v5 := .string ⟨#[]⟩) (v6 := .bool false) (v7 := .string ⟨#[]⟩) (v8 := .bool false) (v9 := .string ⟨#[]⟩) (v10 := .int .i64 0) hbw (Nat.le_refl _) y0 y1 y2 y3 y4 y5 y6 y7 y8 y9 y10
  rw [← hX]
  refine bodyPost_ret (v := .tuple #[.agg #[.int .i64 0, .int .i64 0, .int .i64 0, .int .i64 0, .int .i64 0, .string ⟨#[]⟩, .bool false, .string ⟨#[]⟩, .bool false, .string ⟨#[]⟩, .int .i64 0], .bool false]) ?_ rfl ⟨rfl, hbX⟩
  simp [results, Tryd.results9, go_sem, e20, e21, e22, e23, e24, e25, e26, e27, e28, e29, e30]

set_option maxRecDepth 100000 in
set_option maxHeartbeats 4000000 in
theorem refDecode_3ff_yes (gsn t p pg u : Int) (s key : ByteArray) (m a1 a2 I1 I2 I3 : Nat) (w : World) (hs : s.size ≤ 1000) (h0 : (atOf s 0 : Int) = 3) (h1 : (rtOf (cutOf s 1 4) 4 : Int) = t) (h2 : (rtOf (cutOf s 5 8) 8 : Int) = p) (h3 : (atOf s 13 : Int) = pg) (h4 : atOf s 14 = m) (h5 : cutOf s 15 m = key) (hm : m ≤ 2000) (h6 : atOf s I1 = a1) (h8 : atOf s I2 = a2) (b1 : I1 ≤ 2000) (b2 : I2 ≤ 2000) (b3 : I3 ≤ 2000) (q2 : wrap64 (15 + (m : Int)) = (I1 : Int)) (q4 : wrap64 ((I1 : Int) + 1) = (I2 : Int)) (q6 : wrap64 ((I2 : Int) + 1) = (I3 : Int)) (q7 : max (a1 : Int) 1 = 1) (q8 : max (a2 : Int) 1 = 1) (f1 : (a1 : Int) ≤ 0) (f2 : (a2 : Int) ≤ 0) (hu : (rtOf (cutOf s I3 8) 8 : Int) = u) (hO : rcOk 3 gsn t p pg key false ⟨#[]⟩ false ⟨#[]⟩ u = true) (hE : encStr 3 t p pg key false ⟨#[]⟩ false ⟨#[]⟩ u = s) :
    Calls Tryd.prog 9 #[.int .i64 gsn, .string s] w fun e w' => e = .returned (.tuple #[.agg #[.int .i64 3, .int .i64 gsn, .int .i64 t, .int .i64 p, .int .i64 pg, .string key, .bool false, .string ⟨#[]⟩, .bool false, .string ⟨#[]⟩, .int .i64 u], .bool true]) ∧ Below w.heap.size w w' := by
  have A0 := Lib.hid (fun W => refAt_any s 0 W hs (by decide))
  rw [h0, show ((0 : Nat) : Int) = (0 : Int) from rfl] at A0
  have C1 := Lib.hid (fun W => refCut_any s 1 4 W hs (by decide) (by decide))
  rw [show ((1 : Nat) : Int) = (1 : Int) from rfl, show ((4 : Nat) : Int) = (4 : Int) from rfl] at C1
  have C5 := Lib.hid (fun W => refCut_any s 5 8 W hs (by decide) (by decide))
  rw [show ((5 : Nat) : Int) = (5 : Int) from rfl, show ((8 : Nat) : Int) = (8 : Int) from rfl] at C5
  have T4 := Lib.hid (fun W => refTake_at (cutOf s 1 4) 4 W (by decide) (Nat.le_trans (cutOf_size s 1 4) (Nat.le_trans hs (by decide))))
  have T8 := Lib.hid (fun W => refTake_at (cutOf s 5 8) 8 W (by decide) (Nat.le_trans (cutOf_size s 5 8) (Nat.le_trans hs (by decide))))
  rw [h1] at T4
  rw [h2] at T8
  generalize cutOf s 1 4 = x1 at C1 T4
  generalize cutOf s 5 8 = x5 at C5 T8
  generalize rtOk x1 4 = y1 at T4
  generalize rtOk x5 8 = y5 at T8
  have A13 := Lib.hid (fun W => refAt_any s 13 W hs (by decide))
  rw [h3, show ((13 : Nat) : Int) = (13 : Int) from rfl] at A13
  have A14 := Lib.hid (fun W => refAt_any s 14 W hs (by decide))
  rw [h4, show ((14 : Nat) : Int) = (14 : Int) from rfl] at A14
  have C15 := Lib.hid (fun W => refCut_any s 15 m W hs (by decide) hm)
  rw [h5, show ((15 : Nat) : Int) = (15 : Int) from rfl] at C15
  have B1 := Lib.hid (fun W => refAt_any s I1 W hs b1)
  rw [h6] at B1
  have B2 := Lib.hid (fun W => refAt_any s I2 W hs b2)
  rw [h8] at B2
  have CU := Lib.hid (fun W => refCut_any s I3 8 W hs b3 (by decide))
  rw [show ((8 : Nat) : Int) = (8 : Int) from rfl] at CU
  have TU := Lib.hid (fun W => refTake_at (cutOf s I3 8) 8 W (by decide) (Nat.le_trans (cutOf_size s I3 8) (Nat.le_trans hs (by decide))))
  rw [hu] at TU
  generalize cutOf s I3 8 = xu at CU TU
  generalize rtOk xu 8 = yu at TU
  have KP := Lib.hid (fun W => page_any 3 W)
  have KR := Lib.hid (fun W => refRight_any 3 gsn t p pg u key ⟨#[]⟩ ⟨#[]⟩ false false W)
  rw [hO] at KR
  have KE := Lib.hid (fun W => refEncode_any 3 gsn t p pg u key ⟨#[]⟩ ⟨#[]⟩ false false W hO)
  rw [hE] at KE
  clear hs h0 h1 h2 h3 h4 h5 h6 h8 hO hm b1 b2 b3 hu hE
  go_enter Tryd.func9, Tryd.ntmps9
  go_wp2_with fail
  refine (A0.out _).mono ?_
  rintro x w1 ⟨rfl, rfl⟩
  go_wp2_with fail
  refine (C1.out _).mono ?_
  rintro x w1 ⟨rfl, rfl⟩
  go_wp2_with fail
  refine (T4.out _).mono ?_
  rintro x w1 ⟨rfl, rfl⟩
  go_wp2_with fail
  refine (C5.out _).mono ?_
  rintro x w1 ⟨rfl, rfl⟩
  go_wp2_with fail
  refine (T8.out _).mono ?_
  rintro x w1 ⟨rfl, rfl⟩
  go_wp2_with fail
  refine (KP.out _).mono ?_
  rintro x w1 ⟨rfl, rfl⟩
  go_wp2_with fail
  refine (A13.out _).mono ?_
  rintro x w1 ⟨rfl, rfl⟩
  go_wp2_with fail
  refine (A14.out _).mono ?_
  rintro x w1 ⟨rfl, rfl⟩
  go_wp2_with fail
  refine (C15.out _).mono ?_
  rintro x w1 ⟨rfl, rfl⟩
  go_wp2_with fail
  refine (A14.out _).mono ?_
  rintro x w1 ⟨rfl, rfl⟩
  go_wp2_with fail
  refine (B1.out _).mono ?_
  rintro x w1 ⟨rfl, rfl⟩
  go_wp2_with fail
  refine (B1.out _).mono ?_
  rintro x w1 ⟨rfl, rfl⟩
  go_wp2_with fail
  refine (B2.out _).mono ?_
  rintro x w1 ⟨rfl, rfl⟩
  go_wp2_with fail
  refine (B2.out _).mono ?_
  rintro x w1 ⟨rfl, rfl⟩
  go_wp2_with fail
  refine (CU.out _).mono ?_
  rintro x w1 ⟨rfl, rfl⟩
  go_wp2_with fail
  refine (TU.out _).mono ?_
  rintro x w1 ⟨rfl, rfl⟩
  go_wp2_with fail
  refine (KR.out _).mono ?_
  rintro x w5 ⟨rfl, hb5⟩
  have r0 : w5.cell? ⟨w.heap.size + 1, 0, none⟩ = some (.int .i64 3) := keep_cell hb5 (new_cell (by rw [World.size_alloc]) rfl)
  have r1 : w5.cell? ⟨w.heap.size + 1, 1, none⟩ = some (.int .i64 gsn) := keep_cell hb5 (new_cell (by rw [World.size_alloc]) rfl)
  have r2 : w5.cell? ⟨w.heap.size + 1, 2, none⟩ = some (.int .i64 t) := keep_cell hb5 (new_cell (by rw [World.size_alloc]) rfl)
  have r3 : w5.cell? ⟨w.heap.size + 1, 3, none⟩ = some (.int .i64 p) := keep_cell hb5 (new_cell (by rw [World.size_alloc]) rfl)
  have r4 : w5.cell? ⟨w.heap.size + 1, 4, none⟩ = some (.int .i64 pg) := keep_cell hb5 (new_cell (by rw [World.size_alloc]) rfl)
  have r5 : w5.cell? ⟨w.heap.size + 1, 5, none⟩ = some (.string key) := keep_cell hb5 (new_cell (by rw [World.size_alloc]) rfl)
  have r6 : w5.cell? ⟨w.heap.size + 1, 6, none⟩ = some (.bool false) := keep_cell hb5 (new_cell (by rw [World.size_alloc]) rfl)
  have r7 : w5.cell? ⟨w.heap.size + 1, 7, none⟩ = some (.string ⟨#[]⟩) := keep_cell hb5 (new_cell (by rw [World.size_alloc]) rfl)
  have r8 : w5.cell? ⟨w.heap.size + 1, 8, none⟩ = some (.bool false) := keep_cell hb5 (new_cell (by rw [World.size_alloc]) rfl)
  have r9 : w5.cell? ⟨w.heap.size + 1, 9, none⟩ = some (.string ⟨#[]⟩) := keep_cell hb5 (new_cell (by rw [World.size_alloc]) rfl)
  have r10 : w5.cell? ⟨w.heap.size + 1, 10, none⟩ = some (.int .i64 u) := keep_cell hb5 (new_cell (by rw [World.size_alloc]) rfl)
  have y0 : w5.cell? ⟨w.heap.size, 0, none⟩ = some (.int .i64 0) := keep_cell hb5 (keep_alloc (new_cell rfl rfl))
  have y1 : w5.cell? ⟨w.heap.size, 1, none⟩ = some (.int .i64 0) := keep_cell hb5 (keep_alloc (new_cell rfl rfl))
  have y2 : w5.cell? ⟨w.heap.size, 2, none⟩ = some (.int .i64 0) := keep_cell hb5 (keep_alloc (new_cell rfl rfl))
  have y3 : w5.cell? ⟨w.heap.size, 3, none⟩ = some (.int .i64 0) := keep_cell hb5 (keep_alloc (new_cell rfl rfl))
  have y4 : w5.cell? ⟨w.heap.size, 4, none⟩ = some (.int .i64 0) := keep_cell hb5 (keep_alloc (new_cell rfl rfl))
  have y5 : w5.cell? ⟨w.heap.size, 5, none⟩ = some (.string ⟨#[]⟩) := keep_cell hb5 (keep_alloc (new_cell rfl rfl))
  have y6 : w5.cell? ⟨w.heap.size, 6, none⟩ = some (.bool false) := keep_cell hb5 (keep_alloc (new_cell rfl rfl))
  have y7 : w5.cell? ⟨w.heap.size, 7, none⟩ = some (.string ⟨#[]⟩) := keep_cell hb5 (keep_alloc (new_cell rfl rfl))
  have y8 : w5.cell? ⟨w.heap.size, 8, none⟩ = some (.bool false) := keep_cell hb5 (keep_alloc (new_cell rfl rfl))
  have y9 : w5.cell? ⟨w.heap.size, 9, none⟩ = some (.string ⟨#[]⟩) := keep_cell hb5 (keep_alloc (new_cell rfl rfl))
  have y10 : w5.cell? ⟨w.heap.size, 10, none⟩ = some (.int .i64 0) := keep_cell hb5 (keep_alloc (new_cell rfl rfl))
  have yf : ∀ i, w5.frozen? ⟨w.heap.size, i, none⟩ = false := fun i => by
    refine (hb5.frozen (p := ⟨w.heap.size, i, none⟩) (by simp only [World.size_alloc]; omega)).trans ?_
    rw [World.frozen?_alloc_past _ _ _ (by rw [World.size_alloc]; omega)]
    exact World.frozen?_alloc_at _ _ _ _ rfl
  have hbw : Below w.heap.size w w5 := bw_call hb5 (bw_alloc (bw_alloc (Below.refl _ _)))
  clear hb5 KR
  go_wp2_with fail
  refine (KE.out _).mono ?_
  rintro x w6 ⟨rfl, hb6⟩
  replace r0 := keep_cell hb6 r0
  replace r1 := keep_cell hb6 r1
  replace r2 := keep_cell hb6 r2
  replace r3 := keep_cell hb6 r3
  replace r4 := keep_cell hb6 r4
  replace r5 := keep_cell hb6 r5
  replace r6 := keep_cell hb6 r6
  replace r7 := keep_cell hb6 r7
  replace r8 := keep_cell hb6 r8
  replace r9 := keep_cell hb6 r9
  replace r10 := keep_cell hb6 r10
  replace yf : ∀ i, w6.frozen? ⟨w.heap.size, i, none⟩ = false := fun i => (hb6.frozen (p := ⟨w.heap.size, i, none⟩) (block_lt (p := ⟨w.heap.size, 0, none⟩) y0)).trans (yf i)
  replace y0 := keep_cell hb6 y0
  replace y1 := keep_cell hb6 y1
  replace y2 := keep_cell hb6 y2
  replace y3 := keep_cell hb6 y3
  replace y4 := keep_cell hb6 y4
  replace y5 := keep_cell hb6 y5
  replace y6 := keep_cell hb6 y6
  replace y7 := keep_cell hb6 y7
  replace y8 := keep_cell hb6 y8
  replace y9 := keep_cell hb6 y9
  replace y10 := keep_cell hb6 y10
  replace hbw := bw_call hb6 hbw
  clear hb6 KE
  go_wp2
  obtain ⟨X, hX, e20, e21, e22, e23, e24, e25, e26, e27, e28, e29, e30, hbX⟩ := set11 (v0 := .int .i64 3) (v1 := .int .i64 gsn) (v2 := .int .i64 t) (v3 := .int .i64 p) (v4 := .int .i64 pg) (v5 := .string key) (v6 := .bool false) (v7 := .string ⟨#[]⟩) (v8 := .bool false) (v9 := .string ⟨#[]⟩) (v10 := .int .i64 u) hbw (Nat.le_refl _) y0 y1 y2 y3 y4 y5 y6 y7 y8 y9 y10
  rw [← hX]
  refine bodyPost_ret (v := .tuple #[.agg #[.int .i64 3, .int .i64 gsn, .int .i64 t, .int .i64 p, .int .i64 pg, .string key, .bool false, .string ⟨#[]⟩, .bool false, .string ⟨#[]⟩, .int .i64 u], .bool true]) ?_ rfl ⟨rfl, hbX⟩
  simp [results, Tryd.results9, go_sem, e20, e21, e22, e23, e24, e25, e26, e27, e28, e29, e30]

set_option maxRecDepth 100000 in
set_option maxHeartbeats 4000000 in
theorem refDecode_3ft_wrong (gsn t p pg u : Int) (s key sa : ByteArray) (m a1 a2 I1 I2 I3 P2 N2 : Nat) (w : World) (hs : s.size ≤ 1000) (h0 : (atOf s 0 : Int) = 3) (h1 : (rtOf (cutOf s 1 4) 4 : Int) = t) (h2 : (rtOf (cutOf s 5 8) 8 : Int) = p) (h3 : (atOf s 13 : Int) = pg) (h4 : atOf s 14 = m) (h5 : cutOf s 15 m = key) (hm : m ≤ 2000) (h6 : atOf s I1 = a1) (h8 : atOf s I2 = a2) (b1 : I1 ≤ 2000) (b2 : I2 ≤ 2000) (b3 : I3 ≤ 2000) (q2 : wrap64 (15 + (m : Int)) = (I1 : Int)) (q4 : wrap64 ((I1 : Int) + 1) = (I2 : Int)) (q6 : wrap64 ((I2 : Int) + (a2 : Int)) = (I3 : Int)) (q7 : max (a1 : Int) 1 = 1) (q8 : max (a2 : Int) 1 = (a2 : Int)) (f1 : (a1 : Int) ≤ 0) (f2 : (0 : Int) < (a2 : Int)) (g2 : wrap64 ((I2 : Int) + 1) = (P2 : Int)) (k2 : wrap64 ((a2 : Int) - 1) = (N2 : Int)) (bp2 : P2 ≤ 2000) (bn2 : N2 ≤ 2000) (h9 : cutOf s P2 N2 = sa) (hu : (rtOf (cutOf s I3 8) 8 : Int) = u) (hO : rcOk 3 gsn t p pg key false ⟨#[]⟩ true sa u = false) :
    Calls Tryd.prog 9 #[.int .i64 gsn, .string s] w fun e w' => e = .returned (.tuple #[.agg #[.int .i64 0, .int .i64 0, .int .i64 0, .int .i64 0, .int .i64 0, .string ⟨#[]⟩, .bool false, .string ⟨#[]⟩, .bool false, .string ⟨#[]⟩, .int .i64 0], .bool false]) ∧ Below w.heap.size w w' := by
  have A0 := Lib.hid (fun W => refAt_any s 0 W hs (by decide))
  rw [h0, show ((0 : Nat) : Int) = (0 : Int) from rfl] at A0
  have C1 := Lib.hid (fun W => refCut_any s 1 4 W hs (by decide) (by decide))
  rw [show ((1 : Nat) : Int) = (1 : Int) from rfl, show ((4 : Nat) : Int) = (4 : Int) from rfl] at C1
  have C5 := Lib.hid (fun W => refCut_any s 5 8 W hs (by decide) (by decide))
  rw [show ((5 : Nat) : Int) = (5 : Int) from rfl, show ((8 : Nat) : Int) = (8 : Int) from rfl] at C5
  have T4 := Lib.hid (fun W => refTake_at (cutOf s 1 4) 4 W (by decide) (Nat.le_trans (cutOf_size s 1 4) (Nat.le_trans hs (by decide))))
  have T8 := Lib.hid (fun W => refTake_at (cutOf s 5 8) 8 W (by decide) (Nat.le_trans (cutOf_size s 5 8) (Nat.le_trans hs (by decide))))
  rw [h1] at T4
  rw [h2] at T8
  generalize cutOf s 1 4 = x1 at C1 T4
  generalize cutOf s 5 8 = x5 at C5 T8
  generalize rtOk x1 4 = y1 at T4
  generalize rtOk x5 8 = y5 at T8
  have A13 := Lib.hid (fun W => refAt_any s 13 W hs (by decide))
  rw [h3, show ((13 : Nat) : Int) = (13 : Int) from rfl] at A13
  have A14 := Lib.hid (fun W => refAt_any s 14 W hs (by decide))
  rw [h4, show ((14 : Nat) : Int) = (14 : Int) from rfl] at A14
  have C15 := Lib.hid (fun W => refCut_any s 15 m W hs (by decide) hm)
  rw [h5, show ((15 : Nat) : Int) = (15 : Int) from rfl] at C15
  have B1 := Lib.hid (fun W => refAt_any s I1 W hs b1)
  rw [h6] at B1
  have B2 := Lib.hid (fun W => refAt_any s I2 W hs b2)
  rw [h8] at B2
  have D2 := Lib.hid (fun W => refCut_any s P2 N2 W hs bp2 bn2)
  rw [h9] at D2
  have CU := Lib.hid (fun W => refCut_any s I3 8 W hs b3 (by decide))
  rw [show ((8 : Nat) : Int) = (8 : Int) from rfl] at CU
  have TU := Lib.hid (fun W => refTake_at (cutOf s I3 8) 8 W (by decide) (Nat.le_trans (cutOf_size s I3 8) (Nat.le_trans hs (by decide))))
  rw [hu] at TU
  generalize cutOf s I3 8 = xu at CU TU
  generalize rtOk xu 8 = yu at TU
  have KP := Lib.hid (fun W => page_any 3 W)
  have KR := Lib.hid (fun W => refRight_any 3 gsn t p pg u key ⟨#[]⟩ sa false true W)
  rw [hO] at KR
  clear hs h0 h1 h2 h3 h4 h5 h6 h8 hO hm b1 b2 b3 h9 bp2 bn2 hu
  go_enter Tryd.func9, Tryd.ntmps9
  go_wp2_with fail
  refine (A0.out _).mono ?_
  rintro x w1 ⟨rfl, rfl⟩
  go_wp2_with fail
  refine (C1.out _).mono ?_
  rintro x w1 ⟨rfl, rfl⟩
  go_wp2_with fail
  refine (T4.out _).mono ?_
  rintro x w1 ⟨rfl, rfl⟩
  go_wp2_with fail
  refine (C5.out _).mono ?_
  rintro x w1 ⟨rfl, rfl⟩
  go_wp2_with fail
  refine (T8.out _).mono ?_
  rintro x w1 ⟨rfl, rfl⟩
  go_wp2_with fail
  refine (KP.out _).mono ?_
  rintro x w1 ⟨rfl, rfl⟩
  go_wp2_with fail
  refine (A13.out _).mono ?_
  rintro x w1 ⟨rfl, rfl⟩
  go_wp2_with fail
  refine (A14.out _).mono ?_
  rintro x w1 ⟨rfl, rfl⟩
  go_wp2_with fail
  refine (C15.out _).mono ?_
  rintro x w1 ⟨rfl, rfl⟩
  go_wp2_with fail
  refine (A14.out _).mono ?_
  rintro x w1 ⟨rfl, rfl⟩
  go_wp2_with fail
  refine (B1.out _).mono ?_
  rintro x w1 ⟨rfl, rfl⟩
  go_wp2_with fail
  refine (B1.out _).mono ?_
  rintro x w1 ⟨rfl, rfl⟩
  go_wp2_with fail
  refine (B2.out _).mono ?_
  rintro x w1 ⟨rfl, rfl⟩
  go_wp2_with fail
  refine (B2.out _).mono ?_
  rintro x w1 ⟨rfl, rfl⟩
  go_wp2_with fail
  refine (D2.out _).mono ?_
  rintro x w1 ⟨rfl, rfl⟩
  go_wp2_with fail
  refine (B2.out _).mono ?_
  rintro x w1 ⟨rfl, rfl⟩
  go_wp2_with fail
  refine (CU.out _).mono ?_
  rintro x w1 ⟨rfl, rfl⟩
  go_wp2_with fail
  refine (TU.out _).mono ?_
  rintro x w1 ⟨rfl, rfl⟩
  go_wp2_with fail
  refine (KR.out _).mono ?_
  rintro x w5 ⟨rfl, hb5⟩
  have r0 : w5.cell? ⟨w.heap.size + 1, 0, none⟩ = some (.int .i64 3) := keep_cell hb5 (new_cell (by rw [World.size_alloc]) rfl)
  have r1 : w5.cell? ⟨w.heap.size + 1, 1, none⟩ = some (.int .i64 gsn) := keep_cell hb5 (new_cell (by rw [World.size_alloc]) rfl)
  have r2 : w5.cell? ⟨w.heap.size + 1, 2, none⟩ = some (.int .i64 t) := keep_cell hb5 (new_cell (by rw [World.size_alloc]) rfl)
  have r3 : w5.cell? ⟨w.heap.size + 1, 3, none⟩ = some (.int .i64 p) := keep_cell hb5 (new_cell (by rw [World.size_alloc]) rfl)
  have r4 : w5.cell? ⟨w.heap.size + 1, 4, none⟩ = some (.int .i64 pg) := keep_cell hb5 (new_cell (by rw [World.size_alloc]) rfl)
  have r5 : w5.cell? ⟨w.heap.size + 1, 5, none⟩ = some (.string key) := keep_cell hb5 (new_cell (by rw [World.size_alloc]) rfl)
  have r6 : w5.cell? ⟨w.heap.size + 1, 6, none⟩ = some (.bool false) := keep_cell hb5 (new_cell (by rw [World.size_alloc]) rfl)
  have r7 : w5.cell? ⟨w.heap.size + 1, 7, none⟩ = some (.string ⟨#[]⟩) := keep_cell hb5 (new_cell (by rw [World.size_alloc]) rfl)
  have r8 : w5.cell? ⟨w.heap.size + 1, 8, none⟩ = some (.bool true) := keep_cell hb5 (new_cell (by rw [World.size_alloc]) rfl)
  have r9 : w5.cell? ⟨w.heap.size + 1, 9, none⟩ = some (.string sa) := keep_cell hb5 (new_cell (by rw [World.size_alloc]) rfl)
  have r10 : w5.cell? ⟨w.heap.size + 1, 10, none⟩ = some (.int .i64 u) := keep_cell hb5 (new_cell (by rw [World.size_alloc]) rfl)
  have y0 : w5.cell? ⟨w.heap.size, 0, none⟩ = some (.int .i64 0) := keep_cell hb5 (keep_alloc (new_cell rfl rfl))
  have y1 : w5.cell? ⟨w.heap.size, 1, none⟩ = some (.int .i64 0) := keep_cell hb5 (keep_alloc (new_cell rfl rfl))
  have y2 : w5.cell? ⟨w.heap.size, 2, none⟩ = some (.int .i64 0) := keep_cell hb5 (keep_alloc (new_cell rfl rfl))
  have y3 : w5.cell? ⟨w.heap.size, 3, none⟩ = some (.int .i64 0) := keep_cell hb5 (keep_alloc (new_cell rfl rfl))
  have y4 : w5.cell? ⟨w.heap.size, 4, none⟩ = some (.int .i64 0) := keep_cell hb5 (keep_alloc (new_cell rfl rfl))
  have y5 : w5.cell? ⟨w.heap.size, 5, none⟩ = some (.string ⟨#[]⟩) := keep_cell hb5 (keep_alloc (new_cell rfl rfl))
  have y6 : w5.cell? ⟨w.heap.size, 6, none⟩ = some (.bool false) := keep_cell hb5 (keep_alloc (new_cell rfl rfl))
  have y7 : w5.cell? ⟨w.heap.size, 7, none⟩ = some (.string ⟨#[]⟩) := keep_cell hb5 (keep_alloc (new_cell rfl rfl))
  have y8 : w5.cell? ⟨w.heap.size, 8, none⟩ = some (.bool false) := keep_cell hb5 (keep_alloc (new_cell rfl rfl))
  have y9 : w5.cell? ⟨w.heap.size, 9, none⟩ = some (.string ⟨#[]⟩) := keep_cell hb5 (keep_alloc (new_cell rfl rfl))
  have y10 : w5.cell? ⟨w.heap.size, 10, none⟩ = some (.int .i64 0) := keep_cell hb5 (keep_alloc (new_cell rfl rfl))
  have yf : ∀ i, w5.frozen? ⟨w.heap.size, i, none⟩ = false := fun i => by
    refine (hb5.frozen (p := ⟨w.heap.size, i, none⟩) (by simp only [World.size_alloc]; omega)).trans ?_
    rw [World.frozen?_alloc_past _ _ _ (by rw [World.size_alloc]; omega)]
    exact World.frozen?_alloc_at _ _ _ _ rfl
  have hbw : Below w.heap.size w w5 := bw_call hb5 (bw_alloc (bw_alloc (Below.refl _ _)))
  clear hb5 KR
  go_wp2
  obtain ⟨X, hX, e20, e21, e22, e23, e24, e25, e26, e27, e28, e29, e30, hbX⟩ := set11 (v0 := .int .i64 0) (v1 := .int .i64 0) (v2 := .int .i64 0) (v3 := .int .i64 0) (v4 := .int .i64 0) (v5 := .string ⟨#[]⟩) (v6 := .bool false) (v7 := .string ⟨#[]⟩) (v8 := .bool false) (v9 := .string ⟨#[]⟩) (v10 := .int .i64 0) hbw (Nat.le_refl _) y0 y1 y2 y3 y4 y5 y6 y7 y8 y9 y10
  rw [← hX]
  refine bodyPost_ret (v := .tuple #[.agg #[.int .i64 0, .int .i64 0, .int .i64 0, .int .i64 0, .int .i64 0, .string ⟨#[]⟩, .bool false, .string ⟨#[]⟩, .bool false, .string ⟨#[]⟩, .int .i64 0], .bool false]) ?_ rfl ⟨rfl, hbX⟩
  simp [results, Tryd.results9, go_sem, e20, e21, e22, e23, e24, e25, e26, e27, e28, e29, e30]

set_option maxRecDepth 100000 in
set_option maxHeartbeats 4000000 in
theorem refDecode_3ft_other (gsn t p pg u : Int) (s key sa : ByteArray) (m a1 a2 I1 I2 I3 P2 N2 : Nat) (w : World) (hs : s.size ≤ 1000) (h0 : (atOf s 0 : Int) = 3) (h1 : (rtOf (cutOf s 1 4) 4 : Int) = t) (h2 : (rtOf (cutOf s 5 8) 8 : Int) = p) (h3 : (atOf s 13 : Int) = pg) (h4 : atOf s 14 = m) (h5 : cutOf s 15 m = key) (hm : m ≤ 2000) (h6 : atOf s I1 = a1) (h8 : atOf s I2 = a2) (b1 : I1 ≤ 2000) (b2 : I2 ≤ 2000) (b3 : I3 ≤ 2000) (q2 : wrap64 (15 + (m : Int)) = (I1 : Int)) (q4 : wrap64 ((I1 : Int) + 1) = (I2 : Int)) (q6 : wrap64 ((I2 : Int) + (a2 : Int)) = (I3 : Int)) (q7 : max (a1 : Int) 1 = 1) (q8 : max (a2 : Int) 1 = (a2 : Int)) (f1 : (a1 : Int) ≤ 0) (f2 : (0 : Int) < (a2 : Int)) (g2 : wrap64 ((I2 : Int) + 1) = (P2 : Int)) (k2 : wrap64 ((a2 : Int) - 1) = (N2 : Int)) (bp2 : P2 ≤ 2000) (bn2 : N2 ≤ 2000) (h9 : cutOf s P2 N2 = sa) (hu : (rtOf (cutOf s I3 8) 8 : Int) = u) (hO : rcOk 3 gsn t p pg key false ⟨#[]⟩ true sa u = true) (hE : ¬ encStr 3 t p pg key false ⟨#[]⟩ true sa u = s) :
    Calls Tryd.prog 9 #[.int .i64 gsn, .string s] w fun e w' => e = .returned (.tuple #[.agg #[.int .i64 0, .int .i64 0, .int .i64 0, .int .i64 0, .int .i64 0, .string ⟨#[]⟩, .bool false, .string ⟨#[]⟩, .bool false, .string ⟨#[]⟩, .int .i64 0], .bool false]) ∧ Below w.heap.size w w' := by
  have A0 := Lib.hid (fun W => refAt_any s 0 W hs (by decide))
  rw [h0, show ((0 : Nat) : Int) = (0 : Int) from rfl] at A0
  have C1 := Lib.hid (fun W => refCut_any s 1 4 W hs (by decide) (by decide))
  rw [show ((1 : Nat) : Int) = (1 : Int) from rfl, show ((4 : Nat) : Int) = (4 : Int) from rfl] at C1
  have C5 := Lib.hid (fun W => refCut_any s 5 8 W hs (by decide) (by decide))
  rw [show ((5 : Nat) : Int) = (5 : Int) from rfl, show ((8 : Nat) : Int) = (8 : Int) from rfl] at C5
  have T4 := Lib.hid (fun W => refTake_at (cutOf s 1 4) 4 W (by decide) (Nat.le_trans (cutOf_size s 1 4) (Nat.le_trans hs (by decide))))
  have T8 := Lib.hid (fun W => refTake_at (cutOf s 5 8) 8 W (by decide) (Nat.le_trans (cutOf_size s 5 8) (Nat.le_trans hs (by decide))))
  rw [h1] at T4
  rw [h2] at T8
  generalize cutOf s 1 4 = x1 at C1 T4
  generalize cutOf s 5 8 = x5 at C5 T8
  generalize rtOk x1 4 = y1 at T4
  generalize rtOk x5 8 = y5 at T8
  have A13 := Lib.hid (fun W => refAt_any s 13 W hs (by decide))
  rw [h3, show ((13 : Nat) : Int) = (13 : Int) from rfl] at A13
  have A14 := Lib.hid (fun W => refAt_any s 14 W hs (by decide))
  rw [h4, show ((14 : Nat) : Int) = (14 : Int) from rfl] at A14
  have C15 := Lib.hid (fun W => refCut_any s 15 m W hs (by decide) hm)
  rw [h5, show ((15 : Nat) : Int) = (15 : Int) from rfl] at C15
  have B1 := Lib.hid (fun W => refAt_any s I1 W hs b1)
  rw [h6] at B1
  have B2 := Lib.hid (fun W => refAt_any s I2 W hs b2)
  rw [h8] at B2
  have D2 := Lib.hid (fun W => refCut_any s P2 N2 W hs bp2 bn2)
  rw [h9] at D2
  have CU := Lib.hid (fun W => refCut_any s I3 8 W hs b3 (by decide))
  rw [show ((8 : Nat) : Int) = (8 : Int) from rfl] at CU
  have TU := Lib.hid (fun W => refTake_at (cutOf s I3 8) 8 W (by decide) (Nat.le_trans (cutOf_size s I3 8) (Nat.le_trans hs (by decide))))
  rw [hu] at TU
  generalize cutOf s I3 8 = xu at CU TU
  generalize rtOk xu 8 = yu at TU
  have KP := Lib.hid (fun W => page_any 3 W)
  have KR := Lib.hid (fun W => refRight_any 3 gsn t p pg u key ⟨#[]⟩ sa false true W)
  rw [hO] at KR
  have KE := Lib.hid (fun W => refEncode_any 3 gsn t p pg u key ⟨#[]⟩ sa false true W hO)
  generalize encStr 3 t p pg key false ⟨#[]⟩ true sa u = E at KE hE
  have hne : (E.toList == s.toList) = false := by rw [beq_eq_false_iff_ne]; exact fun e => hE (ba_ext (by rw [← ByteArray.toList_eq, ← ByteArray.toList_eq]; exact e))
  clear hs h0 h1 h2 h3 h4 h5 h6 h8 hO hm b1 b2 b3 h9 bp2 bn2 hu hE
  go_enter Tryd.func9, Tryd.ntmps9
  go_wp2_with fail
  refine (A0.out _).mono ?_
  rintro x w1 ⟨rfl, rfl⟩
  go_wp2_with fail
  refine (C1.out _).mono ?_
  rintro x w1 ⟨rfl, rfl⟩
  go_wp2_with fail
  refine (T4.out _).mono ?_
  rintro x w1 ⟨rfl, rfl⟩
  go_wp2_with fail
  refine (C5.out _).mono ?_
  rintro x w1 ⟨rfl, rfl⟩
  go_wp2_with fail
  refine (T8.out _).mono ?_
  rintro x w1 ⟨rfl, rfl⟩
  go_wp2_with fail
  refine (KP.out _).mono ?_
  rintro x w1 ⟨rfl, rfl⟩
  go_wp2_with fail
  refine (A13.out _).mono ?_
  rintro x w1 ⟨rfl, rfl⟩
  go_wp2_with fail
  refine (A14.out _).mono ?_
  rintro x w1 ⟨rfl, rfl⟩
  go_wp2_with fail
  refine (C15.out _).mono ?_
  rintro x w1 ⟨rfl, rfl⟩
  go_wp2_with fail
  refine (A14.out _).mono ?_
  rintro x w1 ⟨rfl, rfl⟩
  go_wp2_with fail
  refine (B1.out _).mono ?_
  rintro x w1 ⟨rfl, rfl⟩
  go_wp2_with fail
  refine (B1.out _).mono ?_
  rintro x w1 ⟨rfl, rfl⟩
  go_wp2_with fail
  refine (B2.out _).mono ?_
  rintro x w1 ⟨rfl, rfl⟩
  go_wp2_with fail
  refine (B2.out _).mono ?_
  rintro x w1 ⟨rfl, rfl⟩
  go_wp2_with fail
  refine (D2.out _).mono ?_
  rintro x w1 ⟨rfl, rfl⟩
  go_wp2_with fail
  refine (B2.out _).mono ?_
  rintro x w1 ⟨rfl, rfl⟩
  go_wp2_with fail
  refine (CU.out _).mono ?_
  rintro x w1 ⟨rfl, rfl⟩
  go_wp2_with fail
  refine (TU.out _).mono ?_
  rintro x w1 ⟨rfl, rfl⟩
  go_wp2_with fail
  refine (KR.out _).mono ?_
  rintro x w5 ⟨rfl, hb5⟩
  have r0 : w5.cell? ⟨w.heap.size + 1, 0, none⟩ = some (.int .i64 3) := keep_cell hb5 (new_cell (by rw [World.size_alloc]) rfl)
  have r1 : w5.cell? ⟨w.heap.size + 1, 1, none⟩ = some (.int .i64 gsn) := keep_cell hb5 (new_cell (by rw [World.size_alloc]) rfl)
  have r2 : w5.cell? ⟨w.heap.size + 1, 2, none⟩ = some (.int .i64 t) := keep_cell hb5 (new_cell (by rw [World.size_alloc]) rfl)
  have r3 : w5.cell? ⟨w.heap.size + 1, 3, none⟩ = some (.int .i64 p) := keep_cell hb5 (new_cell (by rw [World.size_alloc]) rfl)
  have r4 : w5.cell? ⟨w.heap.size + 1, 4, none⟩ = some (.int .i64 pg) := keep_cell hb5 (new_cell (by rw [World.size_alloc]) rfl)
  have r5 : w5.cell? ⟨w.heap.size + 1, 5, none⟩ = some (.string key) := keep_cell hb5 (new_cell (by rw [World.size_alloc]) rfl)
  have r6 : w5.cell? ⟨w.heap.size + 1, 6, none⟩ = some (.bool false) := keep_cell hb5 (new_cell (by rw [World.size_alloc]) rfl)
  have r7 : w5.cell? ⟨w.heap.size + 1, 7, none⟩ = some (.string ⟨#[]⟩) := keep_cell hb5 (new_cell (by rw [World.size_alloc]) rfl)
  have r8 : w5.cell? ⟨w.heap.size + 1, 8, none⟩ = some (.bool true) := keep_cell hb5 (new_cell (by rw [World.size_alloc]) rfl)
  have r9 : w5.cell? ⟨w.heap.size + 1, 9, none⟩ = some (.string sa) := keep_cell hb5 (new_cell (by rw [World.size_alloc]) rfl)
  have r10 : w5.cell? ⟨w.heap.size + 1, 10, none⟩ = some (.int .i64 u) := keep_cell hb5 (new_cell (by rw [World.size_alloc]) rfl)
  have y0 : w5.cell? ⟨w.heap.size, 0, none⟩ = some (.int .i64 0) := keep_cell hb5 (keep_alloc (new_cell rfl rfl))
  have y1 : w5.cell? ⟨w.heap.size, 1, none⟩ = some (.int .i64 0) := keep_cell hb5 (keep_alloc (new_cell rfl rfl))
  have y2 : w5.cell? ⟨w.heap.size, 2, none⟩ = some (.int .i64 0) := keep_cell hb5 (keep_alloc (new_cell rfl rfl))
  have y3 : w5.cell? ⟨w.heap.size, 3, none⟩ = some (.int .i64 0) := keep_cell hb5 (keep_alloc (new_cell rfl rfl))
  have y4 : w5.cell? ⟨w.heap.size, 4, none⟩ = some (.int .i64 0) := keep_cell hb5 (keep_alloc (new_cell rfl rfl))
  have y5 : w5.cell? ⟨w.heap.size, 5, none⟩ = some (.string ⟨#[]⟩) := keep_cell hb5 (keep_alloc (new_cell rfl rfl))
  have y6 : w5.cell? ⟨w.heap.size, 6, none⟩ = some (.bool false) := keep_cell hb5 (keep_alloc (new_cell rfl rfl))
  have y7 : w5.cell? ⟨w.heap.size, 7, none⟩ = some (.string ⟨#[]⟩) := keep_cell hb5 (keep_alloc (new_cell rfl rfl))
  have y8 : w5.cell? ⟨w.heap.size, 8, none⟩ = some (.bool false) := keep_cell hb5 (keep_alloc (new_cell rfl rfl))
  have y9 : w5.cell? ⟨w.heap.size, 9, none⟩ = some (.string ⟨#[]⟩) := keep_cell hb5 (keep_alloc (new_cell rfl rfl))
  have y10 : w5.cell? ⟨w.heap.size, 10, none⟩ = some (.int .i64 0) := keep_cell hb5 (keep_alloc (new_cell rfl rfl))
  have yf : ∀ i, w5.frozen? ⟨w.heap.size, i, none⟩ = false := fun i => by
    refine (hb5.frozen (p := ⟨w.heap.size, i, none⟩) (by simp only [World.size_alloc]; omega)).trans ?_
    rw [World.frozen?_alloc_past _ _ _ (by rw [World.size_alloc]; omega)]
    exact World.frozen?_alloc_at _ _ _ _ rfl
  have hbw : Below w.heap.size w w5 := bw_call hb5 (bw_alloc (bw_alloc (Below.refl _ _)))
  clear hb5 KR
  go_wp2_with fail
  refine (KE.out _).mono ?_
  rintro x w6 ⟨rfl, hb6⟩
  replace r0 := keep_cell hb6 r0
  replace r1 := keep_cell hb6 r1
  replace r2 := keep_cell hb6 r2
  replace r3 := keep_cell hb6 r3
  replace r4 := keep_cell hb6 r4
  replace r5 := keep_cell hb6 r5
  replace r6 := keep_cell hb6 r6
  replace r7 := keep_cell hb6 r7
  replace r8 := keep_cell hb6 r8
  replace r9 := keep_cell hb6 r9
  replace r10 := keep_cell hb6 r10
  replace yf : ∀ i, w6.frozen? ⟨w.heap.size, i, none⟩ = false := fun i => (hb6.frozen (p := ⟨w.heap.size, i, none⟩) (block_lt (p := ⟨w.heap.size, 0, none⟩) y0)).trans (yf i)
  replace y0 := keep_cell hb6 y0
  replace y1 := keep_cell hb6 y1
  replace y2 := keep_cell hb6 y2
  replace y3 := keep_cell hb6 y3
  replace y4 := keep_cell hb6 y4
  replace y5 := keep_cell hb6 y5
  replace y6 := keep_cell hb6 y6
  replace y7 := keep_cell hb6 y7
  replace y8 := keep_cell hb6 y8
  replace y9 := keep_cell hb6 y9
  replace y10 := keep_cell hb6 y10
  replace hbw := bw_call hb6 hbw
  clear hb6 KE
  go_wp2
  obtain ⟨X, hX, e20, e21, e22, e23, e24, e25, e26, e27, e28, e29, e30, hbX⟩ := set11 (v0 := .int .i64 0) (v1 := .int .i64 0) (v2 := .int .i64 0) (v3 := .int .i64 0) (v4 := .int .i64 0) (v5 := .string ⟨#[]⟩) (v6 := .bool false) (v7 := .string ⟨#[]⟩) (v8 := .bool false) (v9 := .string ⟨#[]⟩) (v10 := .int .i64 0) hbw (Nat.le_refl _) y0 y1 y2 y3 y4 y5 y6 y7 y8 y9 y10
  rw [← hX]
  refine bodyPost_ret (v := .tuple #[.agg #[.int .i64 0, .int .i64 0, .int .i64 0, .int .i64 0, .int .i64 0, .string ⟨#[]⟩, .bool false, .string ⟨#[]⟩, .bool false, .string ⟨#[]⟩, .int .i64 0], .bool false]) ?_ rfl ⟨rfl, hbX⟩
  simp [results, Tryd.results9, go_sem, e20, e21, e22, e23, e24, e25, e26, e27, e28, e29, e30]

set_option maxRecDepth 100000 in
set_option maxHeartbeats 4000000 in
theorem refDecode_3ft_yes (gsn t p pg u : Int) (s key sa : ByteArray) (m a1 a2 I1 I2 I3 P2 N2 : Nat) (w : World) (hs : s.size ≤ 1000) (h0 : (atOf s 0 : Int) = 3) (h1 : (rtOf (cutOf s 1 4) 4 : Int) = t) (h2 : (rtOf (cutOf s 5 8) 8 : Int) = p) (h3 : (atOf s 13 : Int) = pg) (h4 : atOf s 14 = m) (h5 : cutOf s 15 m = key) (hm : m ≤ 2000) (h6 : atOf s I1 = a1) (h8 : atOf s I2 = a2) (b1 : I1 ≤ 2000) (b2 : I2 ≤ 2000) (b3 : I3 ≤ 2000) (q2 : wrap64 (15 + (m : Int)) = (I1 : Int)) (q4 : wrap64 ((I1 : Int) + 1) = (I2 : Int)) (q6 : wrap64 ((I2 : Int) + (a2 : Int)) = (I3 : Int)) (q7 : max (a1 : Int) 1 = 1) (q8 : max (a2 : Int) 1 = (a2 : Int)) (f1 : (a1 : Int) ≤ 0) (f2 : (0 : Int) < (a2 : Int)) (g2 : wrap64 ((I2 : Int) + 1) = (P2 : Int)) (k2 : wrap64 ((a2 : Int) - 1) = (N2 : Int)) (bp2 : P2 ≤ 2000) (bn2 : N2 ≤ 2000) (h9 : cutOf s P2 N2 = sa) (hu : (rtOf (cutOf s I3 8) 8 : Int) = u) (hO : rcOk 3 gsn t p pg key false ⟨#[]⟩ true sa u = true) (hE : encStr 3 t p pg key false ⟨#[]⟩ true sa u = s) :
    Calls Tryd.prog 9 #[.int .i64 gsn, .string s] w fun e w' => e = .returned (.tuple #[.agg #[.int .i64 3, .int .i64 gsn, .int .i64 t, .int .i64 p, .int .i64 pg, .string key, .bool false, .string ⟨#[]⟩, .bool true, .string sa, .int .i64 u], .bool true]) ∧ Below w.heap.size w w' := by
  have A0 := Lib.hid (fun W => refAt_any s 0 W hs (by decide))
  rw [h0, show ((0 : Nat) : Int) = (0 : Int) from rfl] at A0
  have C1 := Lib.hid (fun W => refCut_any s 1 4 W hs (by decide) (by decide))
  rw [show ((1 : Nat) : Int) = (1 : Int) from rfl, show ((4 : Nat) : Int) = (4 : Int) from rfl] at C1
  have C5 := Lib.hid (fun W => refCut_any s 5 8 W hs (by decide) (by decide))
  rw [show ((5 : Nat) : Int) = (5 : Int) from rfl, show ((8 : Nat) : Int) = (8 : Int) from rfl] at C5
  have T4 := Lib.hid (fun W => refTake_at (cutOf s 1 4) 4 W (by decide) (Nat.le_trans (cutOf_size s 1 4) (Nat.le_trans hs (by decide))))
  have T8 := Lib.hid (fun W => refTake_at (cutOf s 5 8) 8 W (by decide) (Nat.le_trans (cutOf_size s 5 8) (Nat.le_trans hs (by decide))))
  rw [h1] at T4
  rw [h2] at T8
  generalize cutOf s 1 4 = x1 at C1 T4
  generalize cutOf s 5 8 = x5 at C5 T8
  generalize rtOk x1 4 = y1 at T4
  generalize rtOk x5 8 = y5 at T8
  have A13 := Lib.hid (fun W => refAt_any s 13 W hs (by decide))
  rw [h3, show ((13 : Nat) : Int) = (13 : Int) from rfl] at A13
  have A14 := Lib.hid (fun W => refAt_any s 14 W hs (by decide))
  rw [h4, show ((14 : Nat) : Int) = (14 : Int) from rfl] at A14
  have C15 := Lib.hid (fun W => refCut_any s 15 m W hs (by decide) hm)
  rw [h5, show ((15 : Nat) : Int) = (15 : Int) from rfl] at C15
  have B1 := Lib.hid (fun W => refAt_any s I1 W hs b1)
  rw [h6] at B1
  have B2 := Lib.hid (fun W => refAt_any s I2 W hs b2)
  rw [h8] at B2
  have D2 := Lib.hid (fun W => refCut_any s P2 N2 W hs bp2 bn2)
  rw [h9] at D2
  have CU := Lib.hid (fun W => refCut_any s I3 8 W hs b3 (by decide))
  rw [show ((8 : Nat) : Int) = (8 : Int) from rfl] at CU
  have TU := Lib.hid (fun W => refTake_at (cutOf s I3 8) 8 W (by decide) (Nat.le_trans (cutOf_size s I3 8) (Nat.le_trans hs (by decide))))
  rw [hu] at TU
  generalize cutOf s I3 8 = xu at CU TU
  generalize rtOk xu 8 = yu at TU
  have KP := Lib.hid (fun W => page_any 3 W)
  have KR := Lib.hid (fun W => refRight_any 3 gsn t p pg u key ⟨#[]⟩ sa false true W)
  rw [hO] at KR
  have KE := Lib.hid (fun W => refEncode_any 3 gsn t p pg u key ⟨#[]⟩ sa false true W hO)
  rw [hE] at KE
  clear hs h0 h1 h2 h3 h4 h5 h6 h8 hO hm b1 b2 b3 h9 bp2 bn2 hu hE
  go_enter Tryd.func9, Tryd.ntmps9
  go_wp2_with fail
  refine (A0.out _).mono ?_
  rintro x w1 ⟨rfl, rfl⟩
  go_wp2_with fail
  refine (C1.out _).mono ?_
  rintro x w1 ⟨rfl, rfl⟩
  go_wp2_with fail
  refine (T4.out _).mono ?_
  rintro x w1 ⟨rfl, rfl⟩
  go_wp2_with fail
  refine (C5.out _).mono ?_
  rintro x w1 ⟨rfl, rfl⟩
  go_wp2_with fail
  refine (T8.out _).mono ?_
  rintro x w1 ⟨rfl, rfl⟩
  go_wp2_with fail
  refine (KP.out _).mono ?_
  rintro x w1 ⟨rfl, rfl⟩
  go_wp2_with fail
  refine (A13.out _).mono ?_
  rintro x w1 ⟨rfl, rfl⟩
  go_wp2_with fail
  refine (A14.out _).mono ?_
  rintro x w1 ⟨rfl, rfl⟩
  go_wp2_with fail
  refine (C15.out _).mono ?_
  rintro x w1 ⟨rfl, rfl⟩
  go_wp2_with fail
  refine (A14.out _).mono ?_
  rintro x w1 ⟨rfl, rfl⟩
  go_wp2_with fail
  refine (B1.out _).mono ?_
  rintro x w1 ⟨rfl, rfl⟩
  go_wp2_with fail
  refine (B1.out _).mono ?_
  rintro x w1 ⟨rfl, rfl⟩
  go_wp2_with fail
  refine (B2.out _).mono ?_
  rintro x w1 ⟨rfl, rfl⟩
  go_wp2_with fail
  refine (B2.out _).mono ?_
  rintro x w1 ⟨rfl, rfl⟩
  go_wp2_with fail
  refine (D2.out _).mono ?_
  rintro x w1 ⟨rfl, rfl⟩
  go_wp2_with fail
  refine (B2.out _).mono ?_
  rintro x w1 ⟨rfl, rfl⟩
  go_wp2_with fail
  refine (CU.out _).mono ?_
  rintro x w1 ⟨rfl, rfl⟩
  go_wp2_with fail
  refine (TU.out _).mono ?_
  rintro x w1 ⟨rfl, rfl⟩
  go_wp2_with fail
  refine (KR.out _).mono ?_
  rintro x w5 ⟨rfl, hb5⟩
  have r0 : w5.cell? ⟨w.heap.size + 1, 0, none⟩ = some (.int .i64 3) := keep_cell hb5 (new_cell (by rw [World.size_alloc]) rfl)
  have r1 : w5.cell? ⟨w.heap.size + 1, 1, none⟩ = some (.int .i64 gsn) := keep_cell hb5 (new_cell (by rw [World.size_alloc]) rfl)
  have r2 : w5.cell? ⟨w.heap.size + 1, 2, none⟩ = some (.int .i64 t) := keep_cell hb5 (new_cell (by rw [World.size_alloc]) rfl)
  have r3 : w5.cell? ⟨w.heap.size + 1, 3, none⟩ = some (.int .i64 p) := keep_cell hb5 (new_cell (by rw [World.size_alloc]) rfl)
  have r4 : w5.cell? ⟨w.heap.size + 1, 4, none⟩ = some (.int .i64 pg) := keep_cell hb5 (new_cell (by rw [World.size_alloc]) rfl)
  have r5 : w5.cell? ⟨w.heap.size + 1, 5, none⟩ = some (.string key) := keep_cell hb5 (new_cell (by rw [World.size_alloc]) rfl)
  have r6 : w5.cell? ⟨w.heap.size + 1, 6, none⟩ = some (.bool false) := keep_cell hb5 (new_cell (by rw [World.size_alloc]) rfl)
  have r7 : w5.cell? ⟨w.heap.size + 1, 7, none⟩ = some (.string ⟨#[]⟩) := keep_cell hb5 (new_cell (by rw [World.size_alloc]) rfl)
  have r8 : w5.cell? ⟨w.heap.size + 1, 8, none⟩ = some (.bool true) := keep_cell hb5 (new_cell (by rw [World.size_alloc]) rfl)
  have r9 : w5.cell? ⟨w.heap.size + 1, 9, none⟩ = some (.string sa) := keep_cell hb5 (new_cell (by rw [World.size_alloc]) rfl)
  have r10 : w5.cell? ⟨w.heap.size + 1, 10, none⟩ = some (.int .i64 u) := keep_cell hb5 (new_cell (by rw [World.size_alloc]) rfl)
  have y0 : w5.cell? ⟨w.heap.size, 0, none⟩ = some (.int .i64 0) := keep_cell hb5 (keep_alloc (new_cell rfl rfl))
  have y1 : w5.cell? ⟨w.heap.size, 1, none⟩ = some (.int .i64 0) := keep_cell hb5 (keep_alloc (new_cell rfl rfl))
  have y2 : w5.cell? ⟨w.heap.size, 2, none⟩ = some (.int .i64 0) := keep_cell hb5 (keep_alloc (new_cell rfl rfl))
  have y3 : w5.cell? ⟨w.heap.size, 3, none⟩ = some (.int .i64 0) := keep_cell hb5 (keep_alloc (new_cell rfl rfl))
  have y4 : w5.cell? ⟨w.heap.size, 4, none⟩ = some (.int .i64 0) := keep_cell hb5 (keep_alloc (new_cell rfl rfl))
  have y5 : w5.cell? ⟨w.heap.size, 5, none⟩ = some (.string ⟨#[]⟩) := keep_cell hb5 (keep_alloc (new_cell rfl rfl))
  have y6 : w5.cell? ⟨w.heap.size, 6, none⟩ = some (.bool false) := keep_cell hb5 (keep_alloc (new_cell rfl rfl))
  have y7 : w5.cell? ⟨w.heap.size, 7, none⟩ = some (.string ⟨#[]⟩) := keep_cell hb5 (keep_alloc (new_cell rfl rfl))
  have y8 : w5.cell? ⟨w.heap.size, 8, none⟩ = some (.bool false) := keep_cell hb5 (keep_alloc (new_cell rfl rfl))
  have y9 : w5.cell? ⟨w.heap.size, 9, none⟩ = some (.string ⟨#[]⟩) := keep_cell hb5 (keep_alloc (new_cell rfl rfl))
  have y10 : w5.cell? ⟨w.heap.size, 10, none⟩ = some (.int .i64 0) := keep_cell hb5 (keep_alloc (new_cell rfl rfl))
  have yf : ∀ i, w5.frozen? ⟨w.heap.size, i, none⟩ = false := fun i => by
    refine (hb5.frozen (p := ⟨w.heap.size, i, none⟩) (by simp only [World.size_alloc]; omega)).trans ?_
    rw [World.frozen?_alloc_past _ _ _ (by rw [World.size_alloc]; omega)]
    exact World.frozen?_alloc_at _ _ _ _ rfl
  have hbw : Below w.heap.size w w5 := bw_call hb5 (bw_alloc (bw_alloc (Below.refl _ _)))
  clear hb5 KR
  go_wp2_with fail
  refine (KE.out _).mono ?_
  rintro x w6 ⟨rfl, hb6⟩
  replace r0 := keep_cell hb6 r0
  replace r1 := keep_cell hb6 r1
  replace r2 := keep_cell hb6 r2
  replace r3 := keep_cell hb6 r3
  replace r4 := keep_cell hb6 r4
  replace r5 := keep_cell hb6 r5
  replace r6 := keep_cell hb6 r6
  replace r7 := keep_cell hb6 r7
  replace r8 := keep_cell hb6 r8
  replace r9 := keep_cell hb6 r9
  replace r10 := keep_cell hb6 r10
  replace yf : ∀ i, w6.frozen? ⟨w.heap.size, i, none⟩ = false := fun i => (hb6.frozen (p := ⟨w.heap.size, i, none⟩) (block_lt (p := ⟨w.heap.size, 0, none⟩) y0)).trans (yf i)
  replace y0 := keep_cell hb6 y0
  replace y1 := keep_cell hb6 y1
  replace y2 := keep_cell hb6 y2
  replace y3 := keep_cell hb6 y3
  replace y4 := keep_cell hb6 y4
  replace y5 := keep_cell hb6 y5
  replace y6 := keep_cell hb6 y6
  replace y7 := keep_cell hb6 y7
  replace y8 := keep_cell hb6 y8
  replace y9 := keep_cell hb6 y9
  replace y10 := keep_cell hb6 y10
  replace hbw := bw_call hb6 hbw
  clear hb6 KE
  go_wp2
  obtain ⟨X, hX, e20, e21, e22, e23, e24, e25, e26, e27, e28, e29, e30, hbX⟩ := set11 (v0 := .int .i64 3) (v1 := .int .i64 gsn) (v2 := .int .i64 t) (v3 := .int .i64 p) (v4 := .int .i64 pg) (v5 := .string key) (v6 := .bool false) (v7 := .string ⟨#[]⟩) (v8 := .bool true) (v9 := .string sa) (v10 := .int .i64 u) hbw (Nat.le_refl _) y0 y1 y2 y3 y4 y5 y6 y7 y8 y9 y10
  rw [← hX]
  refine bodyPost_ret (v := .tuple #[.agg #[.int .i64 3, .int .i64 gsn, .int .i64 t, .int .i64 p, .int .i64 pg, .string key, .bool false, .string ⟨#[]⟩, .bool true, .string sa, .int .i64 u], .bool true]) ?_ rfl ⟨rfl, hbX⟩
  simp [results, Tryd.results9, go_sem, e20, e21, e22, e23, e24, e25, e26, e27, e28, e29, e30]

set_option maxRecDepth 100000 in
set_option maxHeartbeats 4000000 in
theorem refDecode_3tf_wrong (gsn t p pg u : Int) (s key sb : ByteArray) (m a1 a2 I1 I2 I3 P1 N1 : Nat) (w : World) (hs : s.size ≤ 1000) (h0 : (atOf s 0 : Int) = 3) (h1 : (rtOf (cutOf s 1 4) 4 : Int) = t) (h2 : (rtOf (cutOf s 5 8) 8 : Int) = p) (h3 : (atOf s 13 : Int) = pg) (h4 : atOf s 14 = m) (h5 : cutOf s 15 m = key) (hm : m ≤ 2000) (h6 : atOf s I1 = a1) (h8 : atOf s I2 = a2) (b1 : I1 ≤ 2000) (b2 : I2 ≤ 2000) (b3 : I3 ≤ 2000) (q2 : wrap64 (15 + (m : Int)) = (I1 : Int)) (q4 : wrap64 ((I1 : Int) + (a1 : Int)) = (I2 : Int)) (q6 : wrap64 ((I2 : Int) + 1) = (I3 : Int)) (q7 : max (a1 : Int) 1 = (a1 : Int)) (q8 : max (a2 : Int) 1 = 1) (f1 : (0 : Int) < (a1 : Int)) (g1 : wrap64 ((I1 : Int) + 1) = (P1 : Int)) (k1 : wrap64 ((a1 : Int) - 1) = (N1 : Int)) (bp1 : P1 ≤ 2000) (bn1 : N1 ≤ 2000) (h7 : cutOf s P1 N1 = sb) (f2 : (a2 : Int) ≤ 0) (hu : (rtOf (cutOf s I3 8) 8 : Int) = u) (hO : rcOk 3 gsn t p pg key true sb false ⟨#[]⟩ u = false) :
    Calls Tryd.prog 9 #[.int .i64 gsn, .string s] w fun e w' => e = .returned (.tuple #[.agg #[.int .i64 0, .int .i64 0, .int .i64 0, .int .i64 0, .int .i64 0, .string ⟨#[]⟩, .bool false, .string ⟨#[]⟩, .bool false, .string ⟨#[]⟩, .int .i64 0], .bool false]) ∧ Below w.heap.size w w' := by
  have A0 := Lib.hid (fun W => refAt_any s 0 W hs (by decide))
  rw [h0, show ((0 : Nat) : Int) = (0 : Int) from rfl] at A0
  have C1 := Lib.hid (fun W => refCut_any s 1 4 W hs (by decide) (by decide))
  rw [show ((1 : Nat) : Int) = (1 : Int) from rfl, show ((4 : Nat) : Int) = (4 : Int) from rfl] at C1
  have C5 := Lib.hid (fun W => refCut_any s 5 8 W hs (by decide) (by decide))
  rw [show ((5 : Nat) : Int) = (5 : Int) from rfl, show ((8 : Nat) : Int) = (8 : Int) from rfl] at C5
  have T4 := Lib.hid (fun W => refTake_at (cutOf s 1 4) 4 W (by decide) (Nat.le_trans (cutOf_size s 1 4) (Nat.le_trans hs (by decide))))
  have T8 := Lib.hid (fun W => refTake_at (cutOf s 5 8) 8 W (by decide) (Nat.le_trans (cutOf_size s 5 8) (Nat.le_trans hs (by decide))))
  rw [h1] at T4
  rw [h2] at T8
  generalize cutOf s 1 4 = x1 at C1 T4
  generalize cutOf s 5 8 = x5 at C5 T8
  generalize rtOk x1 4 = y1 at T4
  generalize rtOk x5 8 = y5 at T8
  have A13 := Lib.hid (fun W => refAt_any s 13 W hs (by decide))
  rw [h3, show ((13 : Nat) : Int) = (13 : Int) from rfl] at A13
  have A14 := Lib.hid (fun W => refAt_any s 14 W hs (by decide))
  rw [h4, show ((14 : Nat) : Int) = (14 : Int) from rfl] at A14
  have C15 := Lib.hid (fun W => refCut_any s 15 m W hs (by decide) hm)
  rw [h5, show ((15 : Nat) : Int) = (15 : Int) from rfl] at C15
  have B1 := Lib.hid (fun W => refAt_any s I1 W hs b1)
  rw [h6] at B1
  have B2 := Lib.hid (fun W => refAt_any s I2 W hs b2)
  rw [h8] at B2
  have D1 := Lib.hid (fun W => refCut_any s P1 N1 W hs bp1 bn1)
  rw [h7] at D1
  have CU := Lib.hid (fun W => refCut_any s I3 8 W hs b3 (by decide))
  rw [show ((8 : Nat) : Int) = (8 : Int) from rfl] at CU
  have TU := Lib.hid (fun W => refTake_at (cutOf s I3 8) 8 W (by decide) (Nat.le_trans (cutOf_size s I3 8) (Nat.le_trans hs (by decide))))
  rw [hu] at TU
  generalize cutOf s I3 8 = xu at CU TU
  generalize rtOk xu 8 = yu at TU
  have KP := Lib.hid (fun W => page_any 3 W)
  have KR := Lib.hid (fun W => refRight_any 3 gsn t p pg u key sb ⟨#[]⟩ true false W)
  rw [hO] at KR
  clear hs h0 h1 h2 h3 h4 h5 h6 h8 hO hm b1 b2 b3 h7 bp1 bn1 hu
  go_enter Tryd.func9, Tryd.ntmps9
  go_wp2_with fail
  refine (A0.out _).mono ?_
  rintro x w1 ⟨rfl, rfl⟩
  go_wp2_with fail
  refine (C1.out _).mono ?_
  rintro x w1 ⟨rfl, rfl⟩
  go_wp2_with fail
  refine (T4.out _).mono ?_
  rintro x w1 ⟨rfl, rfl⟩
  go_wp2_with fail
  refine (C5.out _).mono ?_
  rintro x w1 ⟨rfl, rfl⟩
  go_wp2_with fail
  refine (T8.out _).mono ?_
  rintro x w1 ⟨rfl, rfl⟩
  go_wp2_with fail
  refine (KP.out _).mono ?_
  rintro x w1 ⟨rfl, rfl⟩
  go_wp2_with fail
  refine (A13.out _).mono ?_
  rintro x w1 ⟨rfl, rfl⟩
  go_wp2_with fail
  refine (A14.out _).mono ?_
  rintro x w1 ⟨rfl, rfl⟩
  go_wp2_with fail
  refine (C15.out _).mono ?_
  rintro x w1 ⟨rfl, rfl⟩
  go_wp2_with fail
  refine (A14.out _).mono ?_
  rintro x w1 ⟨rfl, rfl⟩
  go_wp2_with fail
  refine (B1.out _).mono ?_
  rintro x w1 ⟨rfl, rfl⟩
  go_wp2_with fail
  refine (B1.out _).mono ?_
  rintro x w1 ⟨rfl, rfl⟩
  go_wp2_with fail
  refine (D1.out _).mono ?_
  rintro x w1 ⟨rfl, rfl⟩
  go_wp2_with fail
  refine (B1.out _).mono ?_
  rintro x w1 ⟨rfl, rfl⟩
  go_wp2_with fail
  refine (B2.out _).mono ?_
  rintro x w1 ⟨rfl, rfl⟩
  go_wp2_with fail
  refine (B2.out _).mono ?_
  rintro x w1 ⟨rfl, rfl⟩
  go_wp2_with fail
  refine (CU.out _).mono ?_
  rintro x w1 ⟨rfl, rfl⟩
  go_wp2_with fail
  refine (TU.out _).mono ?_
  rintro x w1 ⟨rfl, rfl⟩
  go_wp2_with fail
  refine (KR.out _).mono ?_
  rintro x w5 ⟨rfl, hb5⟩
  have r0 : w5.cell? ⟨w.heap.size + 1, 0, none⟩ = some (.int .i64 3) := keep_cell hb5 (new_cell (by rw [World.size_alloc]) rfl)
  have r1 : w5.cell? ⟨w.heap.size + 1, 1, none⟩ = some (.int .i64 gsn) := keep_cell hb5 (new_cell (by rw [World.size_alloc]) rfl)
  have r2 : w5.cell? ⟨w.heap.size + 1, 2, none⟩ = some (.int .i64 t) := keep_cell hb5 (new_cell (by rw [World.size_alloc]) rfl)
  have r3 : w5.cell? ⟨w.heap.size + 1, 3, none⟩ = some (.int .i64 p) := keep_cell hb5 (new_cell (by rw [World.size_alloc]) rfl)
  have r4 : w5.cell? ⟨w.heap.size + 1, 4, none⟩ = some (.int .i64 pg) := keep_cell hb5 (new_cell (by rw [World.size_alloc]) rfl)
  have r5 : w5.cell? ⟨w.heap.size + 1, 5, none⟩ = some (.string key) := keep_cell hb5 (new_cell (by rw [World.size_alloc]) rfl)
  have r6 : w5.cell? ⟨w.heap.size + 1, 6, none⟩ = some (.bool true) := keep_cell hb5 (new_cell (by rw [World.size_alloc]) rfl)
  have r7 : w5.cell? ⟨w.heap.size + 1, 7, none⟩ = some (.string sb) := keep_cell hb5 (new_cell (by rw [World.size_alloc]) rfl)
  have r8 : w5.cell? ⟨w.heap.size + 1, 8, none⟩ = some (.bool false) := keep_cell hb5 (new_cell (by rw [World.size_alloc]) rfl)
  have r9 : w5.cell? ⟨w.heap.size + 1, 9, none⟩ = some (.string ⟨#[]⟩) := keep_cell hb5 (new_cell (by rw [World.size_alloc]) rfl)
  have r10 : w5.cell? ⟨w.heap.size + 1, 10, none⟩ = some (.int .i64 u) := keep_cell hb5 (new_cell (by rw [World.size_alloc]) rfl)
  have y0 : w5.cell? ⟨w.heap.size, 0, none⟩ = some (.int .i64 0) := keep_cell hb5 (keep_alloc (new_cell rfl rfl))
  have y1 : w5.cell? ⟨w.heap.size, 1, none⟩ = some (.int .i64 0) := keep_cell hb5 (keep_alloc (new_cell rfl rfl))
  have y2 : w5.cell? ⟨w.heap.size, 2, none⟩ = some (.int .i64 0) := keep_cell hb5 (keep_alloc (new_cell rfl rfl))
  have y3 : w5.cell? ⟨w.heap.size, 3, none⟩ = some (.int .i64 0) := keep_cell hb5 (keep_alloc (new_cell rfl rfl))
  have y4 : w5.cell? ⟨w.heap.size, 4, none⟩ = some (.int .i64 0) := keep_cell hb5 (keep_alloc (new_cell rfl rfl))
  have y5 : w5.cell? ⟨w.heap.size, 5, none⟩ = some (.string ⟨#[]⟩) := keep_cell hb5 (keep_alloc (new_cell rfl rfl))
  have y6 : w5.cell? ⟨w.heap.size, 6, none⟩ = some (.bool false) := keep_cell hb5 (keep_alloc (new_cell rfl rfl))
  have y7 : w5.cell? ⟨w.heap.size, 7, none⟩ = some (.string ⟨#[]⟩) := keep_cell hb5 (keep_alloc (new_cell rfl rfl))
  have y8 : w5.cell? ⟨w.heap.size, 8, none⟩ = some (.bool false) := keep_cell hb5 (keep_alloc (new_cell rfl rfl))
  have y9 : w5.cell? ⟨w.heap.size, 9, none⟩ = some (.string ⟨#[]⟩) := keep_cell hb5 (keep_alloc (new_cell rfl rfl))
  have y10 : w5.cell? ⟨w.heap.size, 10, none⟩ = some (.int .i64 0) := keep_cell hb5 (keep_alloc (new_cell rfl rfl))
  have yf : ∀ i, w5.frozen? ⟨w.heap.size, i, none⟩ = false := fun i => by
    refine (hb5.frozen (p := ⟨w.heap.size, i, none⟩) (by simp only [World.size_alloc]; omega)).trans ?_
    rw [World.frozen?_alloc_past _ _ _ (by rw [World.size_alloc]; omega)]
    exact World.frozen?_alloc_at _ _ _ _ rfl
  have hbw : Below w.heap.size w w5 := bw_call hb5 (bw_alloc (bw_alloc (Below.refl _ _)))
  clear hb5 KR
  go_wp2
  obtain ⟨X, hX, e20, e21, e22, e23, e24, e25, e26, e27, e28, e29, e30, hbX⟩ := set11 (v0 := .int .i64 0) (v1 := .int .i64 0) (v2 := .int .i64 0) (v3 := .int .i64 0) (v4 := .int .i64 0) (v5 := .string ⟨#[]⟩) (v6 := .bool false) (v7 := .string ⟨#[]⟩) (v8 := .bool false) (v9 := .string ⟨#[]⟩) (v10 := .int .i64 0) hbw (Nat.le_refl _) y0 y1 y2 y3 y4 y5 y6 y7 y8 y9 y10
  rw [← hX]
  refine bodyPost_ret (v := .tuple #[.agg #[.int .i64 0, .int .i64 0, .int .i64 0, .int .i64 0, .int .i64 0, .string ⟨#[]⟩, .bool false, .string ⟨#[]⟩, .bool false, .string ⟨#[]⟩, .int .i64 0], .bool false]) ?_ rfl ⟨rfl, hbX⟩
  simp [results, Tryd.results9, go_sem, e20, e21, e22, e23, e24, e25, e26, e27, e28, e29, e30]

set_option maxRecDepth 100000 in
set_option maxHeartbeats 4000000 in
theorem refDecode_3tf_other (gsn t p pg u : Int) (s key sb : ByteArray) (m a1 a2 I1 I2 I3 P1 N1 : Nat) (w : World) (hs : s.size ≤ 1000) (h0 : (atOf s 0 : Int) = 3) (h1 : (rtOf (cutOf s 1 4) 4 : Int) = t) (h2 : (rtOf (cutOf s 5 8) 8 : Int) = p) (h3 : (atOf s 13 : Int) = pg) (h4 : atOf s 14 = m) (h5 : cutOf s 15 m = key) (hm : m ≤ 2000) (h6 : atOf s I1 = a1) (h8 : atOf s I2 = a2) (b1 : I1 ≤ 2000) (b2 : I2 ≤ 2000) (b3 : I3 ≤ 2000) (q2 : wrap64 (15 + (m : Int)) = (I1 : Int)) (q4 : wrap64 ((I1 : Int) + (a1 : Int)) = (I2 : Int)) (q6 : wrap64 ((I2 : Int) + 1) = (I3 : Int)) (q7 : max (a1 : Int) 1 = (a1 : Int)) (q8 : max (a2 : Int) 1 = 1) (f1 : (0 : Int) < (a1 : Int)) (g1 : wrap64 ((I1 : Int) + 1) = (P1 : Int)) (k1 : wrap64 ((a1 : Int) - 1) = (N1 : Int)) (bp1 : P1 ≤ 2000) (bn1 : N1 ≤ 2000) (h7 : cutOf s P1 N1 = sb) (f2 : (a2 : Int) ≤ 0) (hu : (rtOf (cutOf s I3 8) 8 : Int) = u) (hO : rcOk 3 gsn t p pg key true sb false ⟨#[]⟩ u = true) (hE : ¬ encStr 3 t p pg key true sb false ⟨#[]⟩ u = s) :
    Calls Tryd.prog 9 #[.int .i64 gsn, .string s] w fun e w' => e = .returned (.tuple #[.agg #[.int .i64 0, .int .i64 0, .int .i64 0, .int .i64 0, .int .i64 0, .string ⟨#[]⟩, .bool false, .string ⟨#[]⟩, .bool false, .string ⟨#[]⟩, .int .i64 0], .bool false]) ∧ Below w.heap.size w w' := by
  have A0 := Lib.hid (fun W => refAt_any s 0 W hs (by decide))
  rw [h0, show ((0 : Nat) : Int) = (0 : Int) from rfl] at A0
  have C1 := Lib.hid (fun W => refCut_any s 1 4 W hs (by decide) (by decide))
  rw [show ((1 : Nat) : Int) = (1 : Int) from rfl, show ((4 : Nat) : Int) = (4 : Int) from rfl] at C1
  have C5 := Lib.hid (fun W => refCut_any s 5 8 W hs (by decide) (by decide))
  rw [show ((5 : Nat) : Int) = (5 : Int) from rfl, show ((8 : Nat) : Int) = (8 : Int) from rfl] at C5
  have T4 := Lib.hid (fun W => refTake_at (cutOf s 1 4) 4 W (by decide) (Nat.le_trans (cutOf_size s 1 4) (Nat.le_trans hs (by decide))))
  have T8 := Lib.hid (fun W => refTake_at (cutOf s 5 8) 8 W (by decide) (Nat.le_trans (cutOf_size s 5 8) (Nat.le_trans hs (by decide))))
  rw [h1] at T4
  rw [h2] at T8
  generalize cutOf s 1 4 = x1 at C1 T4
  generalize cutOf s 5 8 = x5 at C5 T8
  generalize rtOk x1 4 = y1 at T4
  generalize rtOk x5 8 = y5 at T8
  have A13 := Lib.hid (fun W => refAt_any s 13 W hs (by decide))
  rw [h3, show ((13 : Nat) : Int) = (13 : Int) from rfl] at A13
  have A14 := Lib.hid (fun W => refAt_any s 14 W hs (by decide))
  rw [h4, show ((14 : Nat) : Int) = (14 : Int) from rfl] at A14
  have C15 := Lib.hid (fun W => refCut_any s 15 m W hs (by decide) hm)
  rw [h5, show ((15 : Nat) : Int) = (15 : Int) from rfl] at C15
  have B1 := Lib.hid (fun W => refAt_any s I1 W hs b1)
  rw [h6] at B1
  have B2 := Lib.hid (fun W => refAt_any s I2 W hs b2)
  rw [h8] at B2
  have D1 := Lib.hid (fun W => refCut_any s P1 N1 W hs bp1 bn1)
  rw [h7] at D1
  have CU := Lib.hid (fun W => refCut_any s I3 8 W hs b3 (by decide))
  rw [show ((8 : Nat) : Int) = (8 : Int) from rfl] at CU
  have TU := Lib.hid (fun W => refTake_at (cutOf s I3 8) 8 W (by decide) (Nat.le_trans (cutOf_size s I3 8) (Nat.le_trans hs (by decide))))
  rw [hu] at TU
  generalize cutOf s I3 8 = xu at CU TU
  generalize rtOk xu 8 = yu at TU
  have KP := Lib.hid (fun W => page_any 3 W)
  have KR := Lib.hid (fun W => refRight_any 3 gsn t p pg u key sb ⟨#[]⟩ true false W)
  rw [hO] at KR
  have KE := Lib.hid (fun W => refEncode_any 3 gsn t p pg u key sb ⟨#[]⟩ true false W hO)
  generalize encStr 3 t p pg key true sb false ⟨#[]⟩ u = E at KE hE
  have hne : (E.toList == s.toList) = false := by rw [beq_eq_false_iff_ne]; exact fun e => hE (ba_ext (by rw [← ByteArray.toList_eq, ← ByteArray.toList_eq]; exact e))
  clear hs h0 h1 h2 h3 h4 h5 h6 h8 hO hm b1 b2 b3 h7 bp1 bn1 hu hE
  go_enter Tryd.func9, Tryd.ntmps9
  go_wp2_with fail
  refine (A0.out _).mono ?_
  rintro x w1 ⟨rfl, rfl⟩
  go_wp2_with fail
  refine (C1.out _).mono ?_
  rintro x w1 ⟨rfl, rfl⟩
  go_wp2_with fail
  refine (T4.out _).mono ?_
  rintro x w1 ⟨rfl, rfl⟩
  go_wp2_with fail
  refine (C5.out _).mono ?_
  rintro x w1 ⟨rfl, rfl⟩
  go_wp2_with fail
  refine (T8.out _).mono ?_
  rintro x w1 ⟨rfl, rfl⟩
  go_wp2_with fail
  refine (KP.out _).mono ?_
  rintro x w1 ⟨rfl, rfl⟩
  go_wp2_with fail
  refine (A13.out _).mono ?_
  rintro x w1 ⟨rfl, rfl⟩
  go_wp2_with fail
  refine (A14.out _).mono ?_
  rintro x w1 ⟨rfl, rfl⟩
  go_wp2_with fail
  refine (C15.out _).mono ?_
  rintro x w1 ⟨rfl, rfl⟩
  go_wp2_with fail
  refine (A14.out _).mono ?_
  rintro x w1 ⟨rfl, rfl⟩
  go_wp2_with fail
  refine (B1.out _).mono ?_
  rintro x w1 ⟨rfl, rfl⟩
  go_wp2_with fail
  refine (B1.out _).mono ?_
  rintro x w1 ⟨rfl, rfl⟩
  go_wp2_with fail
  refine (D1.out _).mono ?_
  rintro x w1 ⟨rfl, rfl⟩
  go_wp2_with fail
  refine (B1.out _).mono ?_
  rintro x w1 ⟨rfl, rfl⟩
  go_wp2_with fail
  refine (B2.out _).mono ?_
  rintro x w1 ⟨rfl, rfl⟩
  go_wp2_with fail
  refine (B2.out _).mono ?_
  rintro x w1 ⟨rfl, rfl⟩
  go_wp2_with fail
  refine (CU.out _).mono ?_
  rintro x w1 ⟨rfl, rfl⟩
  go_wp2_with fail
  refine (TU.out _).mono ?_
  rintro x w1 ⟨rfl, rfl⟩
  go_wp2_with fail
  refine (KR.out _).mono ?_
  rintro x w5 ⟨rfl, hb5⟩
  have r0 : w5.cell? ⟨w.heap.size + 1, 0, none⟩ = some (.int .i64 3) := keep_cell hb5 (new_cell (by rw [World.size_alloc]) rfl)
  have r1 : w5.cell? ⟨w.heap.size + 1, 1, none⟩ = some (.int .i64 gsn) := keep_cell hb5 (new_cell (by rw [World.size_alloc]) rfl)
  have r2 : w5.cell? ⟨w.heap.size + 1, 2, none⟩ = some (.int .i64 t) := keep_cell hb5 (new_cell (by rw [World.size_alloc]) rfl)
  have r3 : w5.cell? ⟨w.heap.size + 1, 3, none⟩ = some (.int .i64 p) := keep_cell hb5 (new_cell (by rw [World.size_alloc]) rfl)
  have r4 : w5.cell? ⟨w.heap.size + 1, 4, none⟩ = some (.int .i64 pg) := keep_cell hb5 (new_cell (by rw [World.size_alloc]) rfl)
  have r5 : w5.cell? ⟨w.heap.size + 1, 5, none⟩ = some (.string key) := keep_cell hb5 (new_cell (by rw [World.size_alloc]) rfl)
  have r6 : w5.cell? ⟨w.heap.size + 1, 6, none⟩ = some (.bool true) := keep_cell hb5 (new_cell (by rw [World.size_alloc]) rfl)
  have r7 : w5.cell? ⟨w.heap.size + 1, 7, none⟩ = some (.string sb) := keep_cell hb5 (new_cell (by rw [World.size_alloc]) rfl)
  have r8 : w5.cell? ⟨w.heap.size + 1, 8, none⟩ = some (.bool false) := keep_cell hb5 (new_cell (by rw [World.size_alloc]) rfl)
  have r9 : w5.cell? ⟨w.heap.size + 1, 9, none⟩ = some (.string ⟨#[]⟩) := keep_cell hb5 (new_cell (by rw [World.size_alloc]) rfl)
  have r10 : w5.cell? ⟨w.heap.size + 1, 10, none⟩ = some (.int .i64 u) := keep_cell hb5 (new_cell (by rw [World.size_alloc]) rfl)
  have y0 : w5.cell? ⟨w.heap.size, 0, none⟩ = some (.int .i64 0) := keep_cell hb5 (keep_alloc (new_cell rfl rfl))
  have y1 : w5.cell? ⟨w.heap.size, 1, none⟩ = some (.int .i64 0) := keep_cell hb5 (keep_alloc (new_cell rfl rfl))
  have y2 : w5.cell? ⟨w.heap.size, 2, none⟩ = some (.int .i64 0) := keep_cell hb5 (keep_alloc (new_cell rfl rfl))
  have y3 : w5.cell? ⟨w.heap.size, 3, none⟩ = some (.int .i64 0) := keep_cell hb5 (keep_alloc (new_cell rfl rfl))
  have y4 : w5.cell? ⟨w.heap.size, 4, none⟩ = some (.int .i64 0) := keep_cell hb5 (keep_alloc (new_cell rfl rfl))
  have y5 : w5.cell? ⟨w.heap.size, 5, none⟩ = some (.string ⟨#[]⟩) := keep_cell hb5 (keep_alloc (new_cell rfl rfl))
  have y6 : w5.cell? ⟨w.heap.size, 6, none⟩ = some (.bool false) := keep_cell hb5 (keep_alloc (new_cell rfl rfl))
  have y7 : w5.cell? ⟨w.heap.size, 7, none⟩ = some (.string ⟨#[]⟩) := keep_cell hb5 (keep_alloc (new_cell rfl rfl))
  have y8 : w5.cell? ⟨w.heap.size, 8, none⟩ = some (.bool false) := keep_cell hb5 (keep_alloc (new_cell rfl rfl))
  have y9 : w5.cell? ⟨w.heap.size, 9, none⟩ = some (.string ⟨#[]⟩) := keep_cell hb5 (keep_alloc (new_cell rfl rfl))
  have y10 : w5.cell? ⟨w.heap.size, 10, none⟩ = some (.int .i64 0) := keep_cell hb5 (keep_alloc (new_cell rfl rfl))
  have yf : ∀ i, w5.frozen? ⟨w.heap.size, i, none⟩ = false := fun i => by
    refine (hb5.frozen (p := ⟨w.heap.size, i, none⟩) (by simp only [World.size_alloc]; omega)).trans ?_
    rw [World.frozen?_alloc_past _ _ _ (by rw [World.size_alloc]; omega)]
    exact World.frozen?_alloc_at _ _ _ _ rfl
  have hbw : Below w.heap.size w w5 := bw_call hb5 (bw_alloc (bw_alloc (Below.refl _ _)))
  clear hb5 KR
  go_wp2_with fail
  refine (KE.out _).mono ?_
  rintro x w6 ⟨rfl, hb6⟩
  replace r0 := keep_cell hb6 r0
  replace r1 := keep_cell hb6 r1
  replace r2 := keep_cell hb6 r2
  replace r3 := keep_cell hb6 r3
  replace r4 := keep_cell hb6 r4
  replace r5 := keep_cell hb6 r5
  replace r6 := keep_cell hb6 r6
  replace r7 := keep_cell hb6 r7
  replace r8 := keep_cell hb6 r8
  replace r9 := keep_cell hb6 r9
  replace r10 := keep_cell hb6 r10
  replace yf : ∀ i, w6.frozen? ⟨w.heap.size, i, none⟩ = false := fun i => (hb6.frozen (p := ⟨w.heap.size, i, none⟩) (block_lt (p := ⟨w.heap.size, 0, none⟩) y0)).trans (yf i)
  replace y0 := keep_cell hb6 y0
  replace y1 := keep_cell hb6 y1
  replace y2 := keep_cell hb6 y2
  replace y3 := keep_cell hb6 y3
  replace y4 := keep_cell hb6 y4
  replace y5 := keep_cell hb6 y5
  replace y6 := keep_cell hb6 y6
  replace y7 := keep_cell hb6 y7
  replace y8 := keep_cell hb6 y8
  replace y9 := keep_cell hb6 y9
  replace y10 := keep_cell hb6 y10
  replace hbw := bw_call hb6 hbw
  clear hb6 KE
  go_wp2
  obtain ⟨X, hX, e20, e21, e22, e23, e24, e25, e26, e27, e28, e29, e30, hbX⟩ := set11 (v0 := .int .i64 0) (v1 := .int .i64 0) (v2 := .int .i64 0) (v3 := .int .i64 0) (v4 := .int .i64 0) (v5 := .string ⟨#[]⟩) (v6 := .bool false) (v7 := .string ⟨#[]⟩) (v8 := .bool false) (v9 := .string ⟨#[]⟩) (v10 := .int .i64 0) hbw (Nat.le_refl _) y0 y1 y2 y3 y4 y5 y6 y7 y8 y9 y10
  rw [← hX]
  refine bodyPost_ret (v := .tuple #[.agg #[.int .i64 0, .int .i64 0, .int .i64 0, .int .i64 0, .int .i64 0, .string ⟨#[]⟩, .bool false, .string ⟨#[]⟩, .bool false, .string ⟨#[]⟩, .int .i64 0], .bool false]) ?_ rfl ⟨rfl, hbX⟩
  simp [results, Tryd.results9, go_sem, e20, e21, e22, e23, e24, e25, e26, e27, e28, e29, e30]

set_option maxRecDepth 100000 in
set_option maxHeartbeats 4000000 in
theorem refDecode_3tf_yes (gsn t p pg u : Int) (s key sb : ByteArray) (m a1 a2 I1 I2 I3 P1 N1 : Nat) (w : World) (hs : s.size ≤ 1000) (h0 : (atOf s 0 : Int) = 3) (h1 : (rtOf (cutOf s 1 4) 4 : Int) = t) (h2 : (rtOf (cutOf s 5 8) 8 : Int) = p) (h3 : (atOf s 13 : Int) = pg) (h4 : atOf s 14 = m) (h5 : cutOf s 15 m = key) (hm : m ≤ 2000) (h6 : atOf s I1 = a1) (h8 : atOf s I2 = a2) (b1 : I1 ≤ 2000) (b2 : I2 ≤ 2000) (b3 : I3 ≤ 2000) (q2 : wrap64 (15 + (m : Int)) = (I1 : Int)) (q4 : wrap64 ((I1 : Int) + (a1 : Int)) = (I2 : Int)) (q6 : wrap64 ((I2 : Int) + 1) = (I3 : Int)) (q7 : max (a1 : Int) 1 = (a1 : Int)) (q8 : max (a2 : Int) 1 = 1) (f1 : (0 : Int) < (a1 : Int)) (g1 : wrap64 ((I1 : Int) + 1) = (P1 : Int)) (k1 : wrap64 ((a1 : Int) - 1) = (N1 : Int)) (bp1 : P1 ≤ 2000) (bn1 : N1 ≤ 2000) (h7 : cutOf s P1 N1 = sb) (f2 : (a2 : Int) ≤ 0) (hu : (rtOf (cutOf s I3 8) 8 : Int) = u) (hO : rcOk 3 gsn t p pg key true sb false ⟨#[]⟩ u = true) (hE : encStr 3 t p pg key true sb false ⟨#[]⟩ u = s) :
    Calls Tryd.prog 9 #[.int .i64 gsn, .string s] w fun e w' => e = .returned (.tuple #[.agg #[.int .i64 3, .int .i64 gsn, .int .i64 t, .int .i64 p, .int .i64 pg, .string key, .bool true, .string sb, .bool false, .string ⟨#[]⟩, .int .i64 u], .bool true]) ∧ Below w.heap.size w w' := by
  have A0 := Lib.hid (fun W => refAt_any s 0 W hs (by decide))
  rw [h0, show ((0 : Nat) : Int) = (0 : Int) from rfl] at A0
  have C1 := Lib.hid (fun W => refCut_any s 1 4 W hs (by decide) (by decide))
  rw [show ((1 : Nat) : Int) = (1 : Int) from rfl, show ((4 : Nat) : Int) = (4 : Int) from rfl] at C1
  have C5 := Lib.hid (fun W => refCut_any s 5 8 W hs (by decide) (by decide))
  rw [show ((5 : Nat) : Int) = (5 : Int) from rfl, show ((8 : Nat) : Int) = (8 : Int) from rfl] at C5
  have T4 := Lib.hid (fun W => refTake_at (cutOf s 1 4) 4 W (by decide) (Nat.le_trans (cutOf_size s 1 4) (Nat.le_trans hs (by decide))))
  have T8 := Lib.hid (fun W => refTake_at (cutOf s 5 8) 8 W (by decide) (Nat.le_trans (cutOf_size s 5 8) (Nat.le_trans hs (by decide))))
  rw [h1] at T4
  rw [h2] at T8
  generalize cutOf s 1 4 = x1 at C1 T4
  generalize cutOf s 5 8 = x5 at C5 T8
  generalize rtOk x1 4 = y1 at T4
  generalize rtOk x5 8 = y5 at T8
  have A13 := Lib.hid (fun W => refAt_any s 13 W hs (by decide))
  rw [h3, show ((13 : Nat) : Int) = (13 : Int) from rfl] at A13
  have A14 := Lib.hid (fun W => refAt_any s 14 W hs (by decide))
  rw [h4, show ((14 : Nat) : Int) = (14 : Int) from rfl] at A14
  have C15 := Lib.hid (fun W => refCut_any s 15 m W hs (by decide) hm)
  rw [h5, show ((15 : Nat) : Int) = (15 : Int) from rfl] at C15
  have B1 := Lib.hid (fun W => refAt_any s I1 W hs b1)
  rw [h6] at B1
  have B2 := Lib.hid (fun W => refAt_any s I2 W hs b2)
  rw [h8] at B2
  have D1 := Lib.hid (fun W => refCut_any s P1 N1 W hs bp1 bn1)
  rw [h7] at D1
  have CU := Lib.hid (fun W => refCut_any s I3 8 W hs b3 (by decide))
  rw [show ((8 : Nat) : Int) = (8 : Int) from rfl] at CU
  have TU := Lib.hid (fun W => refTake_at (cutOf s I3 8) 8 W (by decide) (Nat.le_trans (cutOf_size s I3 8) (Nat.le_trans hs (by decide))))
  rw [hu] at TU
  generalize cutOf s I3 8 = xu at CU TU
  generalize rtOk xu 8 = yu at TU
  have KP := Lib.hid (fun W => page_any 3 W)
  have KR := Lib.hid (fun W => refRight_any 3 gsn t p pg u key sb ⟨#[]⟩ true false W)
  rw [hO] at KR
  have KE := Lib.hid (fun W => refEncode_any 3 gsn t p pg u key sb ⟨#[]⟩ true false W hO)
  rw [hE] at KE
  clear hs h0 h1 h2 h3 h4 h5 h6 h8 hO hm b1 b2 b3 h7 bp1 bn1 hu hE
  go_enter Tryd.func9, Tryd.ntmps9
  go_wp2_with fail
  refine (A0.out _).mono ?_
  rintro x w1 ⟨rfl, rfl⟩
  go_wp2_with fail
  refine (C1.out _).mono ?_
  rintro x w1 ⟨rfl, rfl⟩
  go_wp2_with fail
  refine (T4.out _).mono ?_
  rintro x w1 ⟨rfl, rfl⟩
  go_wp2_with fail
  refine (C5.out _).mono ?_
  rintro x w1 ⟨rfl, rfl⟩
  go_wp2_with fail
  refine (T8.out _).mono ?_
  rintro x w1 ⟨rfl, rfl⟩
  go_wp2_with fail
  refine (KP.out _).mono ?_
  rintro x w1 ⟨rfl, rfl⟩
  go_wp2_with fail
  refine (A13.out _).mono ?_
  rintro x w1 ⟨rfl, rfl⟩
  go_wp2_with fail
  refine (A14.out _).mono ?_
  rintro x w1 ⟨rfl, rfl⟩
  go_wp2_with fail
  refine (C15.out _).mono ?_
  rintro x w1 ⟨rfl, rfl⟩
  go_wp2_with fail
  refine (A14.out _).mono ?_
  rintro x w1 ⟨rfl, rfl⟩
  go_wp2_with fail
  refine (B1.out _).mono ?_
  rintro x w1 ⟨rfl, rfl⟩
  go_wp2_with fail
  refine (B1.out _).mono ?_
  rintro x w1 ⟨rfl, rfl⟩
  go_wp2_with fail
  refine (D1.out _).mono ?_
  rintro x w1 ⟨rfl, rfl⟩
  go_wp2_with fail
  refine (B1.out _).mono ?_
  rintro x w1 ⟨rfl, rfl⟩
  go_wp2_with fail
  refine (B2.out _).mono ?_
  rintro x w1 ⟨rfl, rfl⟩
  go_wp2_with fail
  refine (B2.out _).mono ?_
  rintro x w1 ⟨rfl, rfl⟩
  go_wp2_with fail
  refine (CU.out _).mono ?_
  rintro x w1 ⟨rfl, rfl⟩
  go_wp2_with fail
  refine (TU.out _).mono ?_
  rintro x w1 ⟨rfl, rfl⟩
  go_wp2_with fail
  refine (KR.out _).mono ?_
  rintro x w5 ⟨rfl, hb5⟩
  have r0 : w5.cell? ⟨w.heap.size + 1, 0, none⟩ = some (.int .i64 3) := keep_cell hb5 (new_cell (by rw [World.size_alloc]) rfl)
  have r1 : w5.cell? ⟨w.heap.size + 1, 1, none⟩ = some (.int .i64 gsn) := keep_cell hb5 (new_cell (by rw [World.size_alloc]) rfl)
  have r2 : w5.cell? ⟨w.heap.size + 1, 2, none⟩ = some (.int .i64 t) := keep_cell hb5 (new_cell (by rw [World.size_alloc]) rfl)
  have r3 : w5.cell? ⟨w.heap.size + 1, 3, none⟩ = some (.int .i64 p) := keep_cell hb5 (new_cell (by rw [World.size_alloc]) rfl)
  have r4 : w5.cell? ⟨w.heap.size + 1, 4, none⟩ = some (.int .i64 pg) := keep_cell hb5 (new_cell (by rw [World.size_alloc]) rfl)
  have r5 : w5.cell? ⟨w.heap.size + 1, 5, none⟩ = some (.string key) := keep_cell hb5 (new_cell (by rw [World.size_alloc]) rfl)
  have r6 : w5.cell? ⟨w.heap.size + 1, 6, none⟩ = some (.bool true) := keep_cell hb5 (new_cell (by rw [World.size_alloc]) rfl)
  have r7 : w5.cell? ⟨w.heap.size + 1, 7, none⟩ = some (.string sb) := keep_cell hb5 (new_cell (by rw [World.size_alloc]) rfl)
  have r8 : w5.cell? ⟨w.heap.size + 1, 8, none⟩ = some (.bool false) := keep_cell hb5 (new_cell (by rw [World.size_alloc]) rfl)
  have r9 : w5.cell? ⟨w.heap.size + 1, 9, none⟩ = some (.string ⟨#[]⟩) := keep_cell hb5 (new_cell (by rw [World.size_alloc]) rfl)
  have r10 : w5.cell? ⟨w.heap.size + 1, 10, none⟩ = some (.int .i64 u) := keep_cell hb5 (new_cell (by rw [World.size_alloc]) rfl)
  have y0 : w5.cell? ⟨w.heap.size, 0, none⟩ = some (.int .i64 0) := keep_cell hb5 (keep_alloc (new_cell rfl rfl))
  have y1 : w5.cell? ⟨w.heap.size, 1, none⟩ = some (.int .i64 0) := keep_cell hb5 (keep_alloc (new_cell rfl rfl))
  have y2 : w5.cell? ⟨w.heap.size, 2, none⟩ = some (.int .i64 0) := keep_cell hb5 (keep_alloc (new_cell rfl rfl))
  have y3 : w5.cell? ⟨w.heap.size, 3, none⟩ = some (.int .i64 0) := keep_cell hb5 (keep_alloc (new_cell rfl rfl))
  have y4 : w5.cell? ⟨w.heap.size, 4, none⟩ = some (.int .i64 0) := keep_cell hb5 (keep_alloc (new_cell rfl rfl))
  have y5 : w5.cell? ⟨w.heap.size, 5, none⟩ = some (.string ⟨#[]⟩) := keep_cell hb5 (keep_alloc (new_cell rfl rfl))
  have y6 : w5.cell? ⟨w.heap.size, 6, none⟩ = some (.bool false) := keep_cell hb5 (keep_alloc (new_cell rfl rfl))
  have y7 : w5.cell? ⟨w.heap.size, 7, none⟩ = some (.string ⟨#[]⟩) := keep_cell hb5 (keep_alloc (new_cell rfl rfl))
  have y8 : w5.cell? ⟨w.heap.size, 8, none⟩ = some (.bool false) := keep_cell hb5 (keep_alloc (new_cell rfl rfl))
  have y9 : w5.cell? ⟨w.heap.size, 9, none⟩ = some (.string ⟨#[]⟩) := keep_cell hb5 (keep_alloc (new_cell rfl rfl))
  have y10 : w5.cell? ⟨w.heap.size, 10, none⟩ = some (.int .i64 0) := keep_cell hb5 (keep_alloc (new_cell rfl rfl))
  have yf : ∀ i, w5.frozen? ⟨w.heap.size, i, none⟩ = false := fun i => by
    refine (hb5.frozen (p := ⟨w.heap.size, i, none⟩) (by simp only [World.size_alloc]; omega)).trans ?_
    rw [World.frozen?_alloc_past _ _ _ (by rw [World.size_alloc]; omega)]
    exact World.frozen?_alloc_at _ _ _ _ rfl
  have hbw : Below w.heap.size w w5 := bw_call hb5 (bw_alloc (bw_alloc (Below.refl _ _)))
  clear hb5 KR
  go_wp2_with fail
  refine (KE.out _).mono ?_
  rintro x w6 ⟨rfl, hb6⟩
  replace r0 := keep_cell hb6 r0
  replace r1 := keep_cell hb6 r1
  replace r2 := keep_cell hb6 r2
  replace r3 := keep_cell hb6 r3
  replace r4 := keep_cell hb6 r4
  replace r5 := keep_cell hb6 r5
  replace r6 := keep_cell hb6 r6
  replace r7 := keep_cell hb6 r7
  replace r8 := keep_cell hb6 r8
  replace r9 := keep_cell hb6 r9
  replace r10 := keep_cell hb6 r10
  replace yf : ∀ i, w6.frozen? ⟨w.heap.size, i, none⟩ = false := fun i => (hb6.frozen (p := ⟨w.heap.size, i, none⟩) (block_lt (p := ⟨w.heap.size, 0, none⟩) y0)).trans (yf i)
  replace y0 := keep_cell hb6 y0
  replace y1 := keep_cell hb6 y1
  replace y2 := keep_cell hb6 y2
  replace y3 := keep_cell hb6 y3
  replace y4 := keep_cell hb6 y4
  replace y5 := keep_cell hb6 y5
  replace y6 := keep_cell hb6 y6
  replace y7 := keep_cell hb6 y7
  replace y8 := keep_cell hb6 y8
  replace y9 := keep_cell hb6 y9
  replace y10 := keep_cell hb6 y10
  replace hbw := bw_call hb6 hbw
  clear hb6 KE
  go_wp2
  obtain ⟨X, hX, e20, e21, e22, e23, e24, e25, e26, e27, e28, e29, e30, hbX⟩ := set11 (v0 := .int .i64 3) (v1 := .int .i64 gsn) (v2 := .int .i64 t) (v3 := .int .i64 p) (v4 := .int .i64 pg) (v5 := .string key) (v6 := .bool true) (v7 := .string sb) (v8 := .bool false) (v9 := .string ⟨#[]⟩) (v10 := .int .i64 u) hbw (Nat.le_refl _) y0 y1 y2 y3 y4 y5 y6 y7 y8 y9 y10
  rw [← hX]
  refine bodyPost_ret (v := .tuple #[.agg #[.int .i64 3, .int .i64 gsn, .int .i64 t, .int .i64 p, .int .i64 pg, .string key, .bool true, .string sb, .bool false, .string ⟨#[]⟩, .int .i64 u], .bool true]) ?_ rfl ⟨rfl, hbX⟩
  simp [results, Tryd.results9, go_sem, e20, e21, e22, e23, e24, e25, e26, e27, e28, e29, e30]

set_option maxRecDepth 100000 in
set_option maxHeartbeats 4000000 in
theorem refDecode_3tt_wrong (gsn t p pg u : Int) (s key sb sa : ByteArray) (m a1 a2 I1 I2 I3 P1 N1 P2 N2 : Nat) (w : World) (hs : s.size ≤ 1000) (h0 : (atOf s 0 : Int) = 3) (h1 : (rtOf (cutOf s 1 4) 4 : Int) = t) (h2 : (rtOf (cutOf s 5 8) 8 : Int) = p) (h3 : (atOf s 13 : Int) = pg) (h4 : atOf s 14 = m) (h5 : cutOf s 15 m = key) (hm : m ≤ 2000) (h6 : atOf s I1 = a1) (h8 : atOf s I2 = a2) (b1 : I1 ≤ 2000) (b2 : I2 ≤ 2000) (b3 : I3 ≤ 2000) (q2 : wrap64 (15 + (m : Int)) = (I1 : Int)) (q4 : wrap64 ((I1 : Int) + (a1 : Int)) = (I2 : Int)) (q6 : wrap64 ((I2 : Int) + (a2 : Int)) = (I3 : Int)) (q7 : max (a1 : Int) 1 = (a1 : Int)) (q8 : max (a2 : Int) 1 = (a2 : Int)) (f1 : (0 : Int) < (a1 : Int)) (g1 : wrap64 ((I1 : Int) + 1) = (P1 : Int)) (k1 : wrap64 ((a1 : Int) - 1) = (N1 : Int)) (bp1 : P1 ≤ 2000) (bn1 : N1 ≤ 2000) (h7 : cutOf s P1 N1 = sb) (f2 : (0 : Int) < (a2 : Int)) (g2 : wrap64 ((I2 : Int) + 1) = (P2 : Int)) (k2 : wrap64 ((a2 : Int) - 1) = (N2 : Int)) (bp2 : P2 ≤ 2000) (bn2 : N2 ≤ 2000) (h9 : cutOf s P2 N2 = sa) (hu : (rtOf (cutOf s I3 8) 8 : Int) = u) (hO : rcOk 3 gsn t p pg key true sb true sa u = false) :
    Calls Tryd.prog 9 #[.int .i64 gsn, .string s] w fun e w' => e = .returned (.tuple #[.agg #[.int .i64 0, .int .i64 0, .int .i64 0, .int .i64 0, .int .i64 0, .string ⟨#[]⟩, .bool false, .string ⟨#[]⟩, .bool false, .string ⟨#[]⟩, .int .i64 0], .bool false]) ∧ Below w.heap.size w w' := by
  have A0 := Lib.hid (fun W => refAt_any s 0 W hs (by decide))
  rw [h0, show ((0 : Nat) : Int) = (0 : Int) from rfl] at A0
  have C1 := Lib.hid (fun W => refCut_any s 1 4 W hs (by decide) (by decide))
  rw [show ((1 : Nat) : Int) = (1 : Int) from rfl, show ((4 : Nat) : Int) = (4 : Int) from rfl] at C1
  have C5 := Lib.hid (fun W => refCut_any s 5 8 W hs (by decide) (by decide))
  rw [show ((5 : Nat) : Int) = (5 : Int) from rfl, show ((8 : Nat) : Int) = (8 : Int) from rfl] at C5
  have T4 := Lib.hid (fun W => refTake_at (cutOf s 1 4) 4 W (by decide) (Nat.le_trans (cutOf_size s 1 4) (Nat.le_trans hs (by decide))))
  have T8 := Lib.hid (fun W => refTake_at (cutOf s 5 8) 8 W (by decide) (Nat.le_trans (cutOf_size s 5 8) (Nat.le_trans hs (by decide))))
  rw [h1] at T4
  rw [h2] at T8
  generalize cutOf s 1 4 = x1 at C1 T4
  generalize cutOf s 5 8 = x5 at C5 T8
  generalize rtOk x1 4 = y1 at T4
  generalize rtOk x5 8 = y5 at T8
  have A13 := Lib.hid (fun W => refAt_any s 13 W hs (by decide))
  rw [h3, show ((13 : Nat) : Int) = (13 : Int) from rfl] at A13
  have A14 := Lib.hid (fun W => refAt_any s 14 W hs (by decide))
  rw [h4, show ((14 : Nat) : Int) = (14 : Int) from rfl] at A14
  have C15 := Lib.hid (fun W => refCut_any s 15 m W hs (by decide) hm)
  rw [h5, show ((15 : Nat) : Int) = (15 : Int) from rfl] at C15
  have B1 := Lib.hid (fun W => refAt_any s I1 W hs b1)
  rw [h6] at B1
  have B2 := Lib.hid (fun W => refAt_any s I2 W hs b2)
  rw [h8] at B2
  have D1 := Lib.hid (fun W => refCut_any s P1 N1 W hs bp1 bn1)
  rw [h7] at D1
  have D2 := Lib.hid (fun W => refCut_any s P2 N2 W hs bp2 bn2)
  rw [h9] at D2
  have CU := Lib.hid (fun W => refCut_any s I3 8 W hs b3 (by decide))
  rw [show ((8 : Nat) : Int) = (8 : Int) from rfl] at CU
  have TU := Lib.hid (fun W => refTake_at (cutOf s I3 8) 8 W (by decide) (Nat.le_trans (cutOf_size s I3 8) (Nat.le_trans hs (by decide))))
  rw [hu] at TU
  generalize cutOf s I3 8 = xu at CU TU
  generalize rtOk xu 8 = yu at TU
  have KP := Lib.hid (fun W => page_any 3 W)
  have KR := Lib.hid (fun W => refRight_any 3 gsn t p pg u key sb sa true true W)
  rw [hO] at KR
  clear hs h0 h1 h2 h3 h4 h5 h6 h8 hO hm b1 b2 b3 h7 bp1 bn1 h9 bp2 bn2 hu
  go_enter Tryd.func9, Tryd.ntmps9
  go_wp2_with fail
  refine (A0.out _).mono ?_
  rintro x w1 ⟨rfl, rfl⟩
  go_wp2_with fail
  refine (C1.out _).mono ?_
  rintro x w1 ⟨rfl, rfl⟩
  go_wp2_with fail
  refine (T4.out _).mono ?_
  rintro x w1 ⟨rfl, rfl⟩
  go_wp2_with fail
  refine (C5.out _).mono ?_
  rintro x w1 ⟨rfl, rfl⟩
  go_wp2_with fail
  refine (T8.out _).mono ?_
  rintro x w1 ⟨rfl, rfl⟩
  go_wp2_with fail
  refine (KP.out _).mono ?_
  rintro x w1 ⟨rfl, rfl⟩
  go_wp2_with fail
  refine (A13.out _).mono ?_
  rintro x w1 ⟨rfl, rfl⟩
  go_wp2_with fail
  refine (A14.out _).mono ?_
  rintro x w1 ⟨rfl, rfl⟩
  go_wp2_with fail
  refine (C15.out _).mono ?_
  rintro x w1 ⟨rfl, rfl⟩
  go_wp2_with fail
  refine (A14.out _).mono ?_
  rintro x w1 ⟨rfl, rfl⟩
  go_wp2_with fail
  refine (B1.out _).mono ?_
  rintro x w1 ⟨rfl, rfl⟩
  go_wp2_with fail
  refine (B1.out _).mono ?_
  rintro x w1 ⟨rfl, rfl⟩
  go_wp2_with fail
  refine (D1.out _).mono ?_
  rintro x w1 ⟨rfl, rfl⟩
  go_wp2_with fail
  refine (B1.out _).mono ?_
  rintro x w1 ⟨rfl, rfl⟩
  go_wp2_with fail
  refine (B2.out _).mono ?_
  rintro x w1 ⟨rfl, rfl⟩
  go_wp2_with fail
  refine (B2.out _).mono ?_
  rintro x w1 ⟨rfl, rfl⟩
  go_wp2_with fail
  refine (D2.out _).mono ?_
  rintro x w1 ⟨rfl, rfl⟩
  go_wp2_with fail
  refine (B2.out _).mono ?_
  rintro x w1 ⟨rfl, rfl⟩
  go_wp2_with fail
  refine (CU.out _).mono ?_
  rintro x w1 ⟨rfl, rfl⟩
  go_wp2_with fail
  refine (TU.out _).mono ?_
  rintro x w1 ⟨rfl, rfl⟩
  go_wp2_with fail
  refine (KR.out _).mono ?_
  rintro x w5 ⟨rfl, hb5⟩
  have r0 : w5.cell? ⟨w.heap.size + 1, 0, none⟩ = some (.int .i64 3) := keep_cell hb5 (new_cell (by rw [World.size_alloc]) rfl)
  have r1 : w5.cell? ⟨w.heap.size + 1, 1, none⟩ = some (.int .i64 gsn) := keep_cell hb5 (new_cell (by rw [World.size_alloc]) rfl)
  have r2 : w5.cell? ⟨w.heap.size + 1, 2, none⟩ = some (.int .i64 t) := keep_cell hb5 (new_cell (by rw [World.size_alloc]) rfl)
  have r3 : w5.cell? ⟨w.heap.size + 1, 3, none⟩ = some (.int .i64 p) := keep_cell hb5 (new_cell (by rw [World.size_alloc]) rfl)
  have r4 : w5.cell? ⟨w.heap.size + 1, 4, none⟩ = some (.int .i64 pg) := keep_cell hb5 (new_cell (by rw [World.size_alloc]) rfl)
  have r5 : w5.cell? ⟨w.heap.size + 1, 5, none⟩ = some (.string key) := keep_cell hb5 (new_cell (by rw [World.size_alloc]) rfl)
  have r6 : w5.cell? ⟨w.heap.size + 1, 6, none⟩ = some (.bool true) := keep_cell hb5 (new_cell (by rw [World.size_alloc]) rfl)
  have r7 : w5.cell? ⟨w.heap.size + 1, 7, none⟩ = some (.string sb) := keep_cell hb5 (new_cell (by rw [World.size_alloc]) rfl)
  have r8 : w5.cell? ⟨w.heap.size + 1, 8, none⟩ = some (.bool true) := keep_cell hb5 (new_cell (by rw [World.size_alloc]) rfl)
  have r9 : w5.cell? ⟨w.heap.size + 1, 9, none⟩ = some (.string sa) := keep_cell hb5 (new_cell (by rw [World.size_alloc]) rfl)
  have r10 : w5.cell? ⟨w.heap.size + 1, 10, none⟩ = some (.int .i64 u) := keep_cell hb5 (new_cell (by rw [World.size_alloc]) rfl)
  have y0 : w5.cell? ⟨w.heap.size, 0, none⟩ = some (.int .i64 0) := keep_cell hb5 (keep_alloc (new_cell rfl rfl))
  have y1 : w5.cell? ⟨w.heap.size, 1, none⟩ = some (.int .i64 0) := keep_cell hb5 (keep_alloc (new_cell rfl rfl))
  have y2 : w5.cell? ⟨w.heap.size, 2, none⟩ = some (.int .i64 0) := keep_cell hb5 (keep_alloc (new_cell rfl rfl))
  have y3 : w5.cell? ⟨w.heap.size, 3, none⟩ = some (.int .i64 0) := keep_cell hb5 (keep_alloc (new_cell rfl rfl))
  have y4 : w5.cell? ⟨w.heap.size, 4, none⟩ = some (.int .i64 0) := keep_cell hb5 (keep_alloc (new_cell rfl rfl))
  have y5 : w5.cell? ⟨w.heap.size, 5, none⟩ = some (.string ⟨#[]⟩) := keep_cell hb5 (keep_alloc (new_cell rfl rfl))
  have y6 : w5.cell? ⟨w.heap.size, 6, none⟩ = some (.bool false) := keep_cell hb5 (keep_alloc (new_cell rfl rfl))
  have y7 : w5.cell? ⟨w.heap.size, 7, none⟩ = some (.string ⟨#[]⟩) := keep_cell hb5 (keep_alloc (new_cell rfl rfl))
  have y8 : w5.cell? ⟨w.heap.size, 8, none⟩ = some (.bool false) := keep_cell hb5 (keep_alloc (new_cell rfl rfl))
  have y9 : w5.cell? ⟨w.heap.size, 9, none⟩ = some (.string ⟨#[]⟩) := keep_cell hb5 (keep_alloc (new_cell rfl rfl))
  have y10 : w5.cell? ⟨w.heap.size, 10, none⟩ = some (.int .i64 0) := keep_cell hb5 (keep_alloc (new_cell rfl rfl))
  have yf : ∀ i, w5.frozen? ⟨w.heap.size, i, none⟩ = false := fun i => by
    refine (hb5.frozen (p := ⟨w.heap.size, i, none⟩) (by simp only [World.size_alloc]; omega)).trans ?_
    rw [World.frozen?_alloc_past _ _ _ (by rw [World.size_alloc]; omega)]
    exact World.frozen?_alloc_at _ _ _ _ rfl
  have hbw : Below w.heap.size w w5 := bw_call hb5 (bw_alloc (bw_alloc (Below.refl _ _)))
  clear hb5 KR
  go_wp2
  obtain ⟨X, hX, e20, e21, e22, e23, e24, e25, e26, e27, e28, e29, e30, hbX⟩ := set11 (v0 := .int .i64 0) (v1 := .int .i64 0) (v2 := .int .i64 0) (v3 := .int .i64 0) (v4 := .int .i64 0) (v5 := .string ⟨#[]⟩) (v6 := .bool false) (v7 := .string ⟨#[]⟩) (v8 := .bool false) (v9 := .string ⟨#[]⟩) (v10 := .int .i64 0) hbw (Nat.le_refl _) y0 y1 y2 y3 y4 y5 y6 y7 y8 y9 y10
  rw [← hX]
  refine bodyPost_ret (v := .tuple #[.agg #[.int .i64 0, .int .i64 0, .int .i64 0, .int .i64 0, .int .i64 0, .string ⟨#[]⟩, .bool false, .string ⟨#[]⟩, .bool false, .string ⟨#[]⟩, .int .i64 0], .bool false]) ?_ rfl ⟨rfl, hbX⟩
  simp [results, Tryd.results9, go_sem, e20, e21, e22, e23, e24, e25, e26, e27, e28, e29, e30]

set_option maxRecDepth 100000 in
set_option maxHeartbeats 4000000 in
theorem refDecode_3tt_other (gsn t p pg u : Int) (s key sb sa : ByteArray) (m a1 a2 I1 I2 I3 P1 N1 P2 N2 : Nat) (w : World) (hs : s.size ≤ 1000) (h0 : (atOf s 0 : Int) = 3) (h1 : (rtOf (cutOf s 1 4) 4 : Int) = t) (h2 : (rtOf (cutOf s 5 8) 8 : Int) = p) (h3 : (atOf s 13 : Int) = pg) (h4 : atOf s 14 = m) (h5 : cutOf s 15 m = key) (hm : m ≤ 2000) (h6 : atOf s I1 = a1) (h8 : atOf s I2 = a2) (b1 : I1 ≤ 2000) (b2 : I2 ≤ 2000) (b3 : I3 ≤ 2000) (q2 : wrap64 (15 + (m : Int)) = (I1 : Int)) (q4 : wrap64 ((I1 : Int) + (a1 : Int)) = (I2 : Int)) (q6 : wrap64 ((I2 : Int) + (a2 : Int)) = (I3 : Int)) (q7 : max (a1 : Int) 1 = (a1 : Int)) (q8 : max (a2 : Int) 1 = (a2 : Int)) (f1 : (0 : Int) < (a1 : Int)) (g1 : wrap64 ((I1 : Int) + 1) = (P1 : Int)) (k1 : wrap64 ((a1 : Int) - 1) = (N1 : Int)) (bp1 : P1 ≤ 2000) (bn1 : N1 ≤ 2000) (h7 : cutOf s P1 N1 = sb) (f2 : (0 : Int) < (a2 : Int)) (g2 : wrap64 ((I2 : Int) + 1) = (P2 : Int)) (k2 : wrap64 ((a2 : Int) - 1) = (N2 : Int)) (bp2 : P2 ≤ 2000) (bn2 : N2 ≤ 2000) (h9 : cutOf s P2 N2 = sa) (hu : (rtOf (cutOf s I3 8) 8 : Int) = u) (hO : rcOk 3 gsn t p pg key true sb true sa u = true) (hE : ¬ encStr 3 t p pg key true sb true sa u = s) :
    Calls Tryd.prog 9 #[.int .i64 gsn, .string s] w fun e w' => e = .returned (.tuple #[.agg #[.int .i64 0, .int .i64 0, .int .i64 0, .int .i64 0, .int .i64 0, .string ⟨#[]⟩, .bool false, .string ⟨#[]⟩, .bool false, .string ⟨#[]⟩, .int .i64 0], .bool false]) ∧ Below w.heap.size w w' := by
  have A0 := Lib.hid (fun W => refAt_any s 0 W hs (by decide))
  rw [h0, show ((0 : Nat) : Int) = (0 : Int) from rfl] at A0
  have C1 := Lib.hid (fun W => refCut_any s 1 4 W hs (by decide) (by decide))
  rw [show ((1 : Nat) : Int) = (1 : Int) from rfl, show ((4 : Nat) : Int) = (4 : Int) from rfl] at C1
  have C5 := Lib.hid (fun W => refCut_any s 5 8 W hs (by decide) (by decide))
  rw [show ((5 : Nat) : Int) = (5 : Int) from rfl, show ((8 : Nat) : Int) = (8 : Int) from rfl] at C5
  have T4 := Lib.hid (fun W => refTake_at (cutOf s 1 4) 4 W (by decide) (Nat.le_trans (cutOf_size s 1 4) (Nat.le_trans hs (by decide))))
  have T8 := Lib.hid (fun W => refTake_at (cutOf s 5 8) 8 W (by decide) (Nat.le_trans (cutOf_size s 5 8) (Nat.le_trans hs (by decide))))
  rw [h1] at T4
  rw [h2] at T8
  generalize cutOf s 1 4 = x1 at C1 T4
  generalize cutOf s 5 8 = x5 at C5 T8
  generalize rtOk x1 4 = y1 at T4
  generalize rtOk x5 8 = y5 at T8
  have A13 := Lib.hid (fun W => refAt_any s 13 W hs (by decide))
  rw [h3, show ((13 : Nat) : Int) = (13 : Int) from rfl] at A13
  have A14 := Lib.hid (fun W => refAt_any s 14 W hs (by decide))
  rw [h4, show ((14 : Nat) : Int) = (14 : Int) from rfl] at A14
  have C15 := Lib.hid (fun W => refCut_any s 15 m W hs (by decide) hm)
  rw [h5, show ((15 : Nat) : Int) = (15 : Int) from rfl] at C15
  have B1 := Lib.hid (fun W => refAt_any s I1 W hs b1)
  rw [h6] at B1
  have B2 := Lib.hid (fun W => refAt_any s I2 W hs b2)
  rw [h8] at B2
  have D1 := Lib.hid (fun W => refCut_any s P1 N1 W hs bp1 bn1)
  rw [h7] at D1
  have D2 := Lib.hid (fun W => refCut_any s P2 N2 W hs bp2 bn2)
  rw [h9] at D2
  have CU := Lib.hid (fun W => refCut_any s I3 8 W hs b3 (by decide))
  rw [show ((8 : Nat) : Int) = (8 : Int) from rfl] at CU
  have TU := Lib.hid (fun W => refTake_at (cutOf s I3 8) 8 W (by decide) (Nat.le_trans (cutOf_size s I3 8) (Nat.le_trans hs (by decide))))
  rw [hu] at TU
  generalize cutOf s I3 8 = xu at CU TU
  generalize rtOk xu 8 = yu at TU
  have KP := Lib.hid (fun W => page_any 3 W)
  have KR := Lib.hid (fun W => refRight_any 3 gsn t p pg u key sb sa true true W)
  rw [hO] at KR
  have KE := Lib.hid (fun W => refEncode_any 3 gsn t p pg u key sb sa true true W hO)
  generalize encStr 3 t p pg key true sb true sa u = E at KE hE
  have hne : (E.toList == s.toList) = false := by rw [beq_eq_false_iff_ne]; exact fun e => hE (ba_ext (by rw [← ByteArray.toList_eq, ← ByteArray.toList_eq]; exact e))
  clear hs h0 h1 h2 h3 h4 h5 h6 h8 hO hm b1 b2 b3 h7 bp1 bn1 h9 bp2 bn2 hu hE
  go_enter Tryd.func9, Tryd.ntmps9
  go_wp2_with fail
  refine (A0.out _).mono ?_
  rintro x w1 ⟨rfl, rfl⟩
  go_wp2_with fail
  refine (C1.out _).mono ?_
  rintro x w1 ⟨rfl, rfl⟩
  go_wp2_with fail
  refine (T4.out _).mono ?_
  rintro x w1 ⟨rfl, rfl⟩
  go_wp2_with fail
  refine (C5.out _).mono ?_
  rintro x w1 ⟨rfl, rfl⟩
  go_wp2_with fail
  refine (T8.out _).mono ?_
  rintro x w1 ⟨rfl, rfl⟩
  go_wp2_with fail
  refine (KP.out _).mono ?_
  rintro x w1 ⟨rfl, rfl⟩
  go_wp2_with fail
  refine (A13.out _).mono ?_
  rintro x w1 ⟨rfl, rfl⟩
  go_wp2_with fail
  refine (A14.out _).mono ?_
  rintro x w1 ⟨rfl, rfl⟩
  go_wp2_with fail
  refine (C15.out _).mono ?_
  rintro x w1 ⟨rfl, rfl⟩
  go_wp2_with fail
  refine (A14.out _).mono ?_
  rintro x w1 ⟨rfl, rfl⟩
  go_wp2_with fail
  refine (B1.out _).mono ?_
  rintro x w1 ⟨rfl, rfl⟩
  go_wp2_with fail
  refine (B1.out _).mono ?_
  rintro x w1 ⟨rfl, rfl⟩
  go_wp2_with fail
  refine (D1.out _).mono ?_
  rintro x w1 ⟨rfl, rfl⟩
  go_wp2_with fail
  refine (B1.out _).mono ?_
  rintro x w1 ⟨rfl, rfl⟩
  go_wp2_with fail
  refine (B2.out _).mono ?_
  rintro x w1 ⟨rfl, rfl⟩
  go_wp2_with fail
  refine (B2.out _).mono ?_
  rintro x w1 ⟨rfl, rfl⟩
  go_wp2_with fail
  refine (D2.out _).mono ?_
  rintro x w1 ⟨rfl, rfl⟩
  go_wp2_with fail
  refine (B2.out _).mono ?_
  rintro x w1 ⟨rfl, rfl⟩
  go_wp2_with fail
  refine (CU.out _).mono ?_
  rintro x w1 ⟨rfl, rfl⟩
  go_wp2_with fail
  refine (TU.out _).mono ?_
  rintro x w1 ⟨rfl, rfl⟩
  go_wp2_with fail
  refine (KR.out _).mono ?_
  rintro x w5 ⟨rfl, hb5⟩
  have r0 : w5.cell? ⟨w.heap.size + 1, 0, none⟩ = some (.int .i64 3) := keep_cell hb5 (new_cell (by rw [World.size_alloc]) rfl)
  have r1 : w5.cell? ⟨w.heap.size + 1, 1, none⟩ = some (.int .i64 gsn) := keep_cell hb5 (new_cell (by rw [World.size_alloc]) rfl)
  have r2 : w5.cell? ⟨w.heap.size + 1, 2, none⟩ = some (.int .i64 t) := keep_cell hb5 (new_cell (by rw [World.size_alloc]) rfl)
  have r3 : w5.cell? ⟨w.heap.size + 1, 3, none⟩ = some (.int .i64 p) := keep_cell hb5 (new_cell (by rw [World.size_alloc]) rfl)
  have r4 : w5.cell? ⟨w.heap.size + 1, 4, none⟩ = some (.int .i64 pg) := keep_cell hb5 (new_cell (by rw [World.size_alloc]) rfl)
  have r5 : w5.cell? ⟨w.heap.size + 1, 5, none⟩ = some (.string key) := keep_cell hb5 (new_cell (by rw [World.size_alloc]) rfl)
  have r6 : w5.cell? ⟨w.heap.size + 1, 6, none⟩ = some (.bool true) := keep_cell hb5 (new_cell (by rw [World.size_alloc]) rfl)
  have r7 : w5.cell? ⟨w.heap.size + 1, 7, none⟩ = some (.string sb) := keep_cell hb5 (new_cell (by rw [World.size_alloc]) rfl)
  have r8 : w5.cell? ⟨w.heap.size + 1, 8, none⟩ = some (.bool true) := keep_cell hb5 (new_cell (by rw [World.size_alloc]) rfl)
  have r9 : w5.cell? ⟨w.heap.size + 1, 9, none⟩ = some (.string sa) := keep_cell hb5 (new_cell (by rw [World.size_alloc]) rfl)
  have r10 : w5.cell? ⟨w.heap.size + 1, 10, none⟩ = some (.int .i64 u) := keep_cell hb5 (new_cell (by rw [World.size_alloc]) rfl)
  have y0 : w5.cell? ⟨w.heap.size, 0, none⟩ = some (.int .i64 0) := keep_cell hb5 (keep_alloc (new_cell rfl rfl))
  have y1 : w5.cell? ⟨w.heap.size, 1, none⟩ = some (.int .i64 0) := keep_cell hb5 (keep_alloc (new_cell rfl rfl))
  have y2 : w5.cell? ⟨w.heap.size, 2, none⟩ = some (.int .i64 0) := keep_cell hb5 (keep_alloc (new_cell rfl rfl))
  have y3 : w5.cell? ⟨w.heap.size, 3, none⟩ = some (.int .i64 0) := keep_cell hb5 (keep_alloc (new_cell rfl rfl))
  have y4 : w5.cell? ⟨w.heap.size, 4, none⟩ = some (.int .i64 0) := keep_cell hb5 (keep_alloc (new_cell rfl rfl))
  have y5 : w5.cell? ⟨w.heap.size, 5, none⟩ = some (.string ⟨#[]⟩) := keep_cell hb5 (keep_alloc (new_cell rfl rfl))
  have y6 : w5.cell? ⟨w.heap.size, 6, none⟩ = some (.bool false) := keep_cell hb5 (keep_alloc (new_cell rfl rfl))
  have y7 : w5.cell? ⟨w.heap.size, 7, none⟩ = some (.string ⟨#[]⟩) := keep_cell hb5 (keep_alloc (new_cell rfl rfl))
  have y8 : w5.cell? ⟨w.heap.size, 8, none⟩ = some (.bool false) := keep_cell hb5 (keep_alloc (new_cell rfl rfl))
  have y9 : w5.cell? ⟨w.heap.size, 9, none⟩ = some (.string ⟨#[]⟩) := keep_cell hb5 (keep_alloc (new_cell rfl rfl))
  have y10 : w5.cell? ⟨w.heap.size, 10, none⟩ = some (.int .i64 0) := keep_cell hb5 (keep_alloc (new_cell rfl rfl))
  have yf : ∀ i, w5.frozen? ⟨w.heap.size, i, none⟩ = false := fun i => by
    refine (hb5.frozen (p := ⟨w.heap.size, i, none⟩) (by simp only [World.size_alloc]; omega)).trans ?_
    rw [World.frozen?_alloc_past _ _ _ (by rw [World.size_alloc]; omega)]
    exact World.frozen?_alloc_at _ _ _ _ rfl
  have hbw : Below w.heap.size w w5 := bw_call hb5 (bw_alloc (bw_alloc (Below.refl _ _)))
  clear hb5 KR
  go_wp2_with fail
  refine (KE.out _).mono ?_
  rintro x w6 ⟨rfl, hb6⟩
  replace r0 := keep_cell hb6 r0
  replace r1 := keep_cell hb6 r1
  replace r2 := keep_cell hb6 r2
  replace r3 := keep_cell hb6 r3
  replace r4 := keep_cell hb6 r4
  replace r5 := keep_cell hb6 r5
  replace r6 := keep_cell hb6 r6
  replace r7 := keep_cell hb6 r7
  replace r8 := keep_cell hb6 r8
  replace r9 := keep_cell hb6 r9
  replace r10 := keep_cell hb6 r10
  replace yf : ∀ i, w6.frozen? ⟨w.heap.size, i, none⟩ = false := fun i => (hb6.frozen (p := ⟨w.heap.size, i, none⟩) (block_lt (p := ⟨w.heap.size, 0, none⟩) y0)).trans (yf i)
  replace y0 := keep_cell hb6 y0
  replace y1 := keep_cell hb6 y1
  replace y2 := keep_cell hb6 y2
  replace y3 := keep_cell hb6 y3
  replace y4 := keep_cell hb6 y4
  replace y5 := keep_cell hb6 y5
  replace y6 := keep_cell hb6 y6
  replace y7 := keep_cell hb6 y7
  replace y8 := keep_cell hb6 y8
  replace y9 := keep_cell hb6 y9
  replace y10 := keep_cell hb6 y10
  replace hbw := bw_call hb6 hbw
  clear hb6 KE
  go_wp2
  obtain ⟨X, hX, e20, e21, e22, e23, e24, e25, e26, e27, e28, e29, e30, hbX⟩ := set11 (v0 := .int .i64 0) (v1 := .int .i64 0) (v2 := .int .i64 0) (v3 := .int .i64 0) (v4 := .int .i64 0) (v5 := .string ⟨#[]⟩) (v6 := .bool false) (v7 := .string ⟨#[]⟩) (v8 := .bool false) (v9 := .string ⟨#[]⟩) (v10 := .int .i64 0) hbw (Nat.le_refl _) y0 y1 y2 y3 y4 y5 y6 y7 y8 y9 y10
  rw [← hX]
  refine bodyPost_ret (v := .tuple #[.agg #[.int .i64 0, .int .i64 0, .int .i64 0, .int .i64 0, .int .i64 0, .string ⟨#[]⟩, .bool false, .string ⟨#[]⟩, .bool false, .string ⟨#[]⟩, .int .i64 0], .bool false]) ?_ rfl ⟨rfl, hbX⟩
  simp [results, Tryd.results9, go_sem, e20, e21, e22, e23, e24, e25, e26, e27, e28, e29, e30]

set_option maxRecDepth 100000 in
set_option maxHeartbeats 4000000 in
theorem refDecode_3tt_yes (gsn t p pg u : Int) (s key sb sa : ByteArray) (m a1 a2 I1 I2 I3 P1 N1 P2 N2 : Nat) (w : World) (hs : s.size ≤ 1000) (h0 : (atOf s 0 : Int) = 3) (h1 : (rtOf (cutOf s 1 4) 4 : Int) = t) (h2 : (rtOf (cutOf s 5 8) 8 : Int) = p) (h3 : (atOf s 13 : Int) = pg) (h4 : atOf s 14 = m) (h5 : cutOf s 15 m = key) (hm : m ≤ 2000) (h6 : atOf s I1 = a1) (h8 : atOf s I2 = a2) (b1 : I1 ≤ 2000) (b2 : I2 ≤ 2000) (b3 : I3 ≤ 2000) (q2 : wrap64 (15 + (m : Int)) = (I1 : Int)) (q4 : wrap64 ((I1 : Int) + (a1 : Int)) = (I2 : Int)) (q6 : wrap64 ((I2 : Int) + (a2 : Int)) = (I3 : Int)) (q7 : max (a1 : Int) 1 = (a1 : Int)) (q8 : max (a2 : Int) 1 = (a2 : Int)) (f1 : (0 : Int) < (a1 : Int)) (g1 : wrap64 ((I1 : Int) + 1) = (P1 : Int)) (k1 : wrap64 ((a1 : Int) - 1) = (N1 : Int)) (bp1 : P1 ≤ 2000) (bn1 : N1 ≤ 2000) (h7 : cutOf s P1 N1 = sb) (f2 : (0 : Int) < (a2 : Int)) (g2 : wrap64 ((I2 : Int) + 1) = (P2 : Int)) (k2 : wrap64 ((a2 : Int) - 1) = (N2 : Int)) (bp2 : P2 ≤ 2000) (bn2 : N2 ≤ 2000) (h9 : cutOf s P2 N2 = sa) (hu : (rtOf (cutOf s I3 8) 8 : Int) = u) (hO : rcOk 3 gsn t p pg key true sb true sa u = true) (hE : encStr 3 t p pg key true sb true sa u = s) :
    Calls Tryd.prog 9 #[.int .i64 gsn, .string s] w fun e w' => e = .returned (.tuple #[.agg #[.int .i64 3, .int .i64 gsn, .int .i64 t, .int .i64 p, .int .i64 pg, .string key, .bool true, .string sb, .bool true, .string sa, .int .i64 u], .bool true]) ∧ Below w.heap.size w w' := by
  have A0 := Lib.hid (fun W => refAt_any s 0 W hs (by decide))
  rw [h0, show ((0 : Nat) : Int) = (0 : Int) from rfl] at A0
  have C1 := Lib.hid (fun W => refCut_any s 1 4 W hs (by decide) (by decide))
  rw [show ((1 : Nat) : Int) = (1 : Int) from rfl, show ((4 : Nat) : Int) = (4 : Int) from rfl] at C1
  have C5 := Lib.hid (fun W => refCut_any s 5 8 W hs (by decide) (by decide))
  rw [show ((5 : Nat) : Int) = (5 : Int) from rfl, show ((8 : Nat) : Int) = (8 : Int) from rfl] at C5
  have T4 := Lib.hid (fun W => refTake_at (cutOf s 1 4) 4 W (by decide) (Nat.le_trans (cutOf_size s 1 4) (Nat.le_trans hs (by decide))))
  have T8 := Lib.hid (fun W => refTake_at (cutOf s 5 8) 8 W (by decide) (Nat.le_trans (cutOf_size s 5 8) (Nat.le_trans hs (by decide))))
  rw [h1] at T4
  rw [h2] at T8
  generalize cutOf s 1 4 = x1 at C1 T4
  generalize cutOf s 5 8 = x5 at C5 T8
  generalize rtOk x1 4 = y1 at T4
  generalize rtOk x5 8 = y5 at T8
  have A13 := Lib.hid (fun W => refAt_any s 13 W hs (by decide))
  rw [h3, show ((13 : Nat) : Int) = (13 : Int) from rfl] at A13
  have A14 := Lib.hid (fun W => refAt_any s 14 W hs (by decide))
  rw [h4, show ((14 : Nat) : Int) = (14 : Int) from rfl] at A14
  have C15 := Lib.hid (fun W => refCut_any s 15 m W hs (by decide) hm)
  rw [h5, show ((15 : Nat) : Int) = (15 : Int) from rfl] at C15
  have B1 := Lib.hid (fun W => refAt_any s I1 W hs b1)
  rw [h6] at B1
  have B2 := Lib.hid (fun W => refAt_any s I2 W hs b2)
  rw [h8] at B2
  have D1 := Lib.hid (fun W => refCut_any s P1 N1 W hs bp1 bn1)
  rw [h7] at D1
  have D2 := Lib.hid (fun W => refCut_any s P2 N2 W hs bp2 bn2)
  rw [h9] at D2
  have CU := Lib.hid (fun W => refCut_any s I3 8 W hs b3 (by decide))
  rw [show ((8 : Nat) : Int) = (8 : Int) from rfl] at CU
  have TU := Lib.hid (fun W => refTake_at (cutOf s I3 8) 8 W (by decide) (Nat.le_trans (cutOf_size s I3 8) (Nat.le_trans hs (by decide))))
  rw [hu] at TU
  generalize cutOf s I3 8 = xu at CU TU
  generalize rtOk xu 8 = yu at TU
  have KP := Lib.hid (fun W => page_any 3 W)
  have KR := Lib.hid (fun W => refRight_any 3 gsn t p pg u key sb sa true true W)
  rw [hO] at KR
  have KE := Lib.hid (fun W => refEncode_any 3 gsn t p pg u key sb sa true true W hO)
  rw [hE] at KE
  clear hs h0 h1 h2 h3 h4 h5 h6 h8 hO hm b1 b2 b3 h7 bp1 bn1 h9 bp2 bn2 hu hE
  go_enter Tryd.func9, Tryd.ntmps9
  go_wp2_with fail
  refine (A0.out _).mono ?_
  rintro x w1 ⟨rfl, rfl⟩
  go_wp2_with fail
  refine (C1.out _).mono ?_
  rintro x w1 ⟨rfl, rfl⟩
  go_wp2_with fail
  refine (T4.out _).mono ?_
  rintro x w1 ⟨rfl, rfl⟩
  go_wp2_with fail
  refine (C5.out _).mono ?_
  rintro x w1 ⟨rfl, rfl⟩
  go_wp2_with fail
  refine (T8.out _).mono ?_
  rintro x w1 ⟨rfl, rfl⟩
  go_wp2_with fail
  refine (KP.out _).mono ?_
  rintro x w1 ⟨rfl, rfl⟩
  go_wp2_with fail
  refine (A13.out _).mono ?_
  rintro x w1 ⟨rfl, rfl⟩
  go_wp2_with fail
  refine (A14.out _).mono ?_
  rintro x w1 ⟨rfl, rfl⟩
  go_wp2_with fail
  refine (C15.out _).mono ?_
  rintro x w1 ⟨rfl, rfl⟩
  go_wp2_with fail
  refine (A14.out _).mono ?_
  rintro x w1 ⟨rfl, rfl⟩
  go_wp2_with fail
  refine (B1.out _).mono ?_
  rintro x w1 ⟨rfl, rfl⟩
  go_wp2_with fail
  refine (B1.out _).mono ?_
  rintro x w1 ⟨rfl, rfl⟩
  go_wp2_with fail
  refine (D1.out _).mono ?_
  rintro x w1 ⟨rfl, rfl⟩
  go_wp2_with fail
  refine (B1.out _).mono ?_
  rintro x w1 ⟨rfl, rfl⟩
  go_wp2_with fail
  refine (B2.out _).mono ?_
  rintro x w1 ⟨rfl, rfl⟩
  go_wp2_with fail
  refine (B2.out _).mono ?_
  rintro x w1 ⟨rfl, rfl⟩
  go_wp2_with fail
  refine (D2.out _).mono ?_
  rintro x w1 ⟨rfl, rfl⟩
  go_wp2_with fail
  refine (B2.out _).mono ?_
  rintro x w1 ⟨rfl, rfl⟩
  go_wp2_with fail
  refine (CU.out _).mono ?_
  rintro x w1 ⟨rfl, rfl⟩
  go_wp2_with fail
  refine (TU.out _).mono ?_
  rintro x w1 ⟨rfl, rfl⟩
  go_wp2_with fail
  refine (KR.out _).mono ?_
  rintro x w5 ⟨rfl, hb5⟩
  have r0 : w5.cell? ⟨w.heap.size + 1, 0, none⟩ = some (.int .i64 3) := keep_cell hb5 (new_cell (by rw [World.size_alloc]) rfl)
  have r1 : w5.cell? ⟨w.heap.size + 1, 1, none⟩ = some (.int .i64 gsn) := keep_cell hb5 (new_cell (by rw [World.size_alloc]) rfl)
  have r2 : w5.cell? ⟨w.heap.size + 1, 2, none⟩ = some (.int .i64 t) := keep_cell hb5 (new_cell (by rw [World.size_alloc]) rfl)
  have r3 : w5.cell? ⟨w.heap.size + 1, 3, none⟩ = some (.int .i64 p) := keep_cell hb5 (new_cell (by rw [World.size_alloc]) rfl)
  have r4 : w5.cell? ⟨w.heap.size + 1, 4, none⟩ = some (.int .i64 pg) := keep_cell hb5 (new_cell (by rw [World.size_alloc]) rfl)
  have r5 : w5.cell? ⟨w.heap.size + 1, 5, none⟩ = some (.string key) := keep_cell hb5 (new_cell (by rw [World.size_alloc]) rfl)
  have r6 : w5.cell? ⟨w.heap.size + 1, 6, none⟩ = some (.bool true) := keep_cell hb5 (new_cell (by rw [World.size_alloc]) rfl)
  have r7 : w5.cell? ⟨w.heap.size + 1, 7, none⟩ = some (.string sb) := keep_cell hb5 (new_cell (by rw [World.size_alloc]) rfl)
  have r8 : w5.cell? ⟨w.heap.size + 1, 8, none⟩ = some (.bool true) := keep_cell hb5 (new_cell (by rw [World.size_alloc]) rfl)
  have r9 : w5.cell? ⟨w.heap.size + 1, 9, none⟩ = some (.string sa) := keep_cell hb5 (new_cell (by rw [World.size_alloc]) rfl)
  have r10 : w5.cell? ⟨w.heap.size + 1, 10, none⟩ = some (.int .i64 u) := keep_cell hb5 (new_cell (by rw [World.size_alloc]) rfl)
  have y0 : w5.cell? ⟨w.heap.size, 0, none⟩ = some (.int .i64 0) := keep_cell hb5 (keep_alloc (new_cell rfl rfl))
  have y1 : w5.cell? ⟨w.heap.size, 1, none⟩ = some (.int .i64 0) := keep_cell hb5 (keep_alloc (new_cell rfl rfl))
  have y2 : w5.cell? ⟨w.heap.size, 2, none⟩ = some (.int .i64 0) := keep_cell hb5 (keep_alloc (new_cell rfl rfl))
  have y3 : w5.cell? ⟨w.heap.size, 3, none⟩ = some (.int .i64 0) := keep_cell hb5 (keep_alloc (new_cell rfl rfl))
  have y4 : w5.cell? ⟨w.heap.size, 4, none⟩ = some (.int .i64 0) := keep_cell hb5 (keep_alloc (new_cell rfl rfl))
  have y5 : w5.cell? ⟨w.heap.size, 5, none⟩ = some (.string ⟨#[]⟩) := keep_cell hb5 (keep_alloc (new_cell rfl rfl))
  have y6 : w5.cell? ⟨w.heap.size, 6, none⟩ = some (.bool false) := keep_cell hb5 (keep_alloc (new_cell rfl rfl))
  have y7 : w5.cell? ⟨w.heap.size, 7, none⟩ = some (.string ⟨#[]⟩) := keep_cell hb5 (keep_alloc (new_cell rfl rfl))
  have y8 : w5.cell? ⟨w.heap.size, 8, none⟩ = some (.bool false) := keep_cell hb5 (keep_alloc (new_cell rfl rfl))
  have y9 : w5.cell? ⟨w.heap.size, 9, none⟩ = some (.string ⟨#[]⟩) := keep_cell hb5 (keep_alloc (new_cell rfl rfl))
  have y10 : w5.cell? ⟨w.heap.size, 10, none⟩ = some (.int .i64 0) := keep_cell hb5 (keep_alloc (new_cell rfl rfl))
  have yf : ∀ i, w5.frozen? ⟨w.heap.size, i, none⟩ = false := fun i => by
    refine (hb5.frozen (p := ⟨w.heap.size, i, none⟩) (by simp only [World.size_alloc]; omega)).trans ?_
    rw [World.frozen?_alloc_past _ _ _ (by rw [World.size_alloc]; omega)]
    exact World.frozen?_alloc_at _ _ _ _ rfl
  have hbw : Below w.heap.size w w5 := bw_call hb5 (bw_alloc (bw_alloc (Below.refl _ _)))
  clear hb5 KR
  go_wp2_with fail
  refine (KE.out _).mono ?_
  rintro x w6 ⟨rfl, hb6⟩
  replace r0 := keep_cell hb6 r0
  replace r1 := keep_cell hb6 r1
  replace r2 := keep_cell hb6 r2
  replace r3 := keep_cell hb6 r3
  replace r4 := keep_cell hb6 r4
  replace r5 := keep_cell hb6 r5
  replace r6 := keep_cell hb6 r6
  replace r7 := keep_cell hb6 r7
  replace r8 := keep_cell hb6 r8
  replace r9 := keep_cell hb6 r9
  replace r10 := keep_cell hb6 r10
  replace yf : ∀ i, w6.frozen? ⟨w.heap.size, i, none⟩ = false := fun i => (hb6.frozen (p := ⟨w.heap.size, i, none⟩) (block_lt (p := ⟨w.heap.size, 0, none⟩) y0)).trans (yf i)
  replace y0 := keep_cell hb6 y0
  replace y1 := keep_cell hb6 y1
  replace y2 := keep_cell hb6 y2
  replace y3 := keep_cell hb6 y3
  replace y4 := keep_cell hb6 y4
  replace y5 := keep_cell hb6 y5
  replace y6 := keep_cell hb6 y6
  replace y7 := keep_cell hb6 y7
  replace y8 := keep_cell hb6 y8
  replace y9 := keep_cell hb6 y9
  replace y10 := keep_cell hb6 y10
  replace hbw := bw_call hb6 hbw
  clear hb6 KE
  go_wp2
  obtain ⟨X, hX, e20, e21, e22, e23, e24, e25, e26, e27, e28, e29, e30, hbX⟩ := set11 (v0 := .int .i64 3) (v1 := .int .i64 gsn) (v2 := .int .i64 t) (v3 := .int .i64 p) (v4 := .int .i64 pg) (v5 := .string key) (v6 := .bool true) (v7 := .string sb) (v8 := .bool true) (v9 := .string sa) (v10 := .int .i64 u) hbw (Nat.le_refl _) y0 y1 y2 y3 y4 y5 y6 y7 y8 y9 y10
  rw [← hX]
  refine bodyPost_ret (v := .tuple #[.agg #[.int .i64 3, .int .i64 gsn, .int .i64 t, .int .i64 p, .int .i64 pg, .string key, .bool true, .string sb, .bool true, .string sa, .int .i64 u], .bool true]) ?_ rfl ⟨rfl, hbX⟩
  simp [results, Tryd.results9, go_sem, e20, e21, e22, e23, e24, e25, e26, e27, e28, e29, e30]

end Go.Proofs.YtlggbbaigcnpjaaDoor
