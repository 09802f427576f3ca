/-
  THE WALK OF quadrigaref04.Decode, of a kind that changes no page.
-/
import Derived.Test.YtlggbbaigcnpjaaDoorRcRd
namespace Go.Proofs.YtlggbbaigcnpjaaDoor
open Go.RowKit

set_option maxRecDepth 100000 in
set_option maxHeartbeats 4000000 in
theorem refDecode_po_wrong (gsn k t p : Int) (s : ByteArray) (w : World) (hs : s.size ≤ 1000) (h0 : (atOf s 0 : Int) = k) (h1 : (rtOf (cutOf s 1 4) 4 : Int) = t) (h2 : (rtOf (cutOf s 5 8) 8 : Int) = p) (hk2 : ¬ k = 2) (hk3 : ¬ k = 3) (hk4 : ¬ k = 4) (hO : rcOk k gsn t p 0 ⟨#[]⟩ false ⟨#[]⟩ false ⟨#[]⟩ 0 = false) :
    Calls Tryd.prog 9 #[.int .i64 gsn, .string s] w fun e w' => e = .returned (.tuple #[.agg #[.int .i64 0, .int .i64 0, .int .i64 0, .int .i64 0, .int .i64 0, .string ⟨#[]⟩, .bool false, .string ⟨#[]⟩, .bool false, .string ⟨#[]⟩, .int .i64 0], .bool false]) ∧ Below w.heap.size w w' := by
  have A0 := Lib.hid (fun W => refAt_any s 0 W hs (by omega))
  rw [h0, show ((0 : Nat) : Int) = (0 : Int) from rfl] at A0
  have C1 := Lib.hid (fun W => refCut_any s 1 4 W hs (by omega) (by omega))
  rw [show ((1 : Nat) : Int) = (1 : Int) from rfl, show ((4 : Nat) : Int) = (4 : Int) from rfl] at C1
  have C5 := Lib.hid (fun W => refCut_any s 5 8 W hs (by omega) (by omega))
  rw [show ((5 : Nat) : Int) = (5 : Int) from rfl, show ((8 : Nat) : Int) = (8 : Int) from rfl] at C5
  have T4 := Lib.hid (fun W => refTake_at (cutOf s 1 4) 4 W (by omega) (by have := cutOf_size s 1 4; omega))
  have T8 := Lib.hid (fun W => refTake_at (cutOf s 5 8) 8 W (by omega) (by have := cutOf_size s 5 8; omega))
  rw [h1] at T4
  rw [h2] at T8
  generalize cutOf s 1 4 = x1 at C1 T4
  generalize cutOf s 5 8 = x5 at C5 T8
  generalize rtOk x1 4 = y1 at T4
  generalize rtOk x5 8 = y5 at T8
  have KP := Lib.hid (fun W => page_any k W)
  have e2 : (k == 2) = false := by rw [beq_eq_false_iff_ne]; exact hk2
  have e3 : (k == 3) = false := by rw [beq_eq_false_iff_ne]; exact hk3
  have e4 : (k == 4) = false := by rw [beq_eq_false_iff_ne]; exact hk4
  rw [e2, e3] at KP
  have KR := Lib.hid (fun W => refRight_any k gsn t p 0 0 ⟨#[]⟩ ⟨#[]⟩ ⟨#[]⟩ false false W)
  rw [hO] at KR
  clear h0 h1 h2 hO hk2 hk3 hk4
  go_enter Tryd.func9, Tryd.ntmps9
  go_wp2_with fail
  refine (A0.out _).mono ?_
  rintro x w1 ⟨rfl, rfl⟩
  go_wp2_with fail
  refine (C1.out _).mono ?_
  rintro x w1 ⟨rfl, rfl⟩
  go_wp2_with fail
  refine (T4.out _).mono ?_
  rintro x w1 ⟨rfl, rfl⟩
  go_wp2_with fail
  refine (C5.out _).mono ?_
  rintro x w1 ⟨rfl, rfl⟩
  go_wp2_with fail
  refine (T8.out _).mono ?_
  rintro x w1 ⟨rfl, rfl⟩
  go_wp2_with fail
  refine (KP.out _).mono ?_
  rintro x w1 ⟨rfl, rfl⟩
  go_wp2_with fail
  refine (KR.out _).mono ?_
  rintro x w5 ⟨rfl, hb5⟩
  have r0 : w5.cell? ⟨w.heap.size + 1, 0, none⟩ = some (.int .i64 k) := keep_cell hb5 (new_cell (by rw [World.size_alloc]) rfl)
  have r1 : w5.cell? ⟨w.heap.size + 1, 1, none⟩ = some (.int .i64 gsn) := keep_cell hb5 (new_cell (by rw [World.size_alloc]) rfl)
  have r2 : w5.cell? ⟨w.heap.size + 1, 2, none⟩ = some (.int .i64 t) := keep_cell hb5 (new_cell (by rw [World.size_alloc]) rfl)
  have r3 : w5.cell? ⟨w.heap.size + 1, 3, none⟩ = some (.int .i64 p) := keep_cell hb5 (new_cell (by rw [World.size_alloc]) rfl)
  have r4 : w5.cell? ⟨w.heap.size + 1, 4, none⟩ = some (.int .i64 0) := keep_cell hb5 (new_cell (by rw [World.size_alloc]) rfl)
  have r5 : w5.cell? ⟨w.heap.size + 1, 5, none⟩ = some (.string ⟨#[]⟩) := keep_cell hb5 (new_cell (by rw [World.size_alloc]) rfl)
  have r6 : w5.cell? ⟨w.heap.size + 1, 6, none⟩ = some (.bool false) := keep_cell hb5 (new_cell (by rw [World.size_alloc]) rfl)
  have r7 : w5.cell? ⟨w.heap.size + 1, 7, none⟩ = some (.string ⟨#[]⟩) := keep_cell hb5 (new_cell (by rw [World.size_alloc]) rfl)
  have r8 : w5.cell? ⟨w.heap.size + 1, 8, none⟩ = some (.bool false) := keep_cell hb5 (new_cell (by rw [World.size_alloc]) rfl)
  have r9 : w5.cell? ⟨w.heap.size + 1, 9, none⟩ = some (.string ⟨#[]⟩) := keep_cell hb5 (new_cell (by rw [World.size_alloc]) rfl)
  have r10 : w5.cell? ⟨w.heap.size + 1, 10, none⟩ = some (.int .i64 0) := keep_cell hb5 (new_cell (by rw [World.size_alloc]) rfl)
  have y0 : w5.cell? ⟨w.heap.size, 0, none⟩ = some (.int .i64 0) := keep_cell hb5 (keep_alloc (new_cell rfl rfl))
  have y1 : w5.cell? ⟨w.heap.size, 1, none⟩ = some (.int .i64 0) := keep_cell hb5 (keep_alloc (new_cell rfl rfl))
  have y2 : w5.cell? ⟨w.heap.size, 2, none⟩ = some (.int .i64 0) := keep_cell hb5 (keep_alloc (new_cell rfl rfl))
  have y3 : w5.cell? ⟨w.heap.size, 3, none⟩ = some (.int .i64 0) := keep_cell hb5 (keep_alloc (new_cell rfl rfl))
  have y4 : w5.cell? ⟨w.heap.size, 4, none⟩ = some (.int .i64 0) := keep_cell hb5 (keep_alloc (new_cell rfl rfl))
  have y5 : w5.cell? ⟨w.heap.size, 5, none⟩ = some (.string ⟨#[]⟩) := keep_cell hb5 (keep_alloc (new_cell rfl rfl))
  have y6 : w5.cell? ⟨w.heap.size, 6, none⟩ = some (.bool false) := keep_cell hb5 (keep_alloc (new_cell rfl rfl))
  have y7 : w5.cell? ⟨w.heap.size, 7, none⟩ = some (.string ⟨#[]⟩) := keep_cell hb5 (keep_alloc (new_cell rfl rfl))
  have y8 : w5.cell? ⟨w.heap.size, 8, none⟩ = some (.bool false) := keep_cell hb5 (keep_alloc (new_cell rfl rfl))
  have y9 : w5.cell? ⟨w.heap.size, 9, none⟩ = some (.string ⟨#[]⟩) := keep_cell hb5 (keep_alloc (new_cell rfl rfl))
  have y10 : w5.cell? ⟨w.heap.size, 10, none⟩ = some (.int .i64 0) := keep_cell hb5 (keep_alloc (new_cell rfl rfl))
  have yf : ∀ i, w5.frozen? ⟨w.heap.size, i, none⟩ = false := fun i => by
    refine (hb5.frozen (p := ⟨w.heap.size, i, none⟩) (by simp only [World.size_alloc]; omega)).trans ?_
    rw [World.frozen?_alloc_past _ _ _ (by rw [World.size_alloc]; omega)]
    exact World.frozen?_alloc_at _ _ _ _ rfl
  have hbw : Below w.heap.size w w5 := bw_call hb5 (bw_alloc (bw_alloc (Below.refl _ _)))
  clear hb5 KR
  go_wp2
  obtain ⟨X, hX, e20, e21, e22, e23, e24, e25, e26, e27, e28, e29, e30, hbX⟩ := set11 (v0 := .int .i64 0) (v1 := .int .i64 0) (v2 := .int .i64 0) (v3 := .int .i64 0) (v4 := .int .i64 0) (v5 := .string ⟨#[]⟩) (v6 := .bool false) (v7 := .string ⟨#[]⟩) (v8 := .bool false) (v9 := .string ⟨#[]⟩) (v10 := .int .i64 0) hbw (Nat.le_refl _) y0 y1 y2 y3 y4 y5 y6 y7 y8 y9 y10
  rw [← hX]
  refine bodyPost_ret (v := .tuple #[.agg #[.int .i64 0, .int .i64 0, .int .i64 0, .int .i64 0, .int .i64 0, .string ⟨#[]⟩, .bool false, .string ⟨#[]⟩, .bool false, .string ⟨#[]⟩, .int .i64 0], .bool false]) ?_ rfl ⟨rfl, hbX⟩
  simp [results, Tryd.results9, go_sem, e20, e21, e22, e23, e24, e25, e26, e27, e28, e29, e30]

set_option maxRecDepth 100000 in
set_option maxHeartbeats 4000000 in
theorem refDecode_po_other (gsn k t p : Int) (s : ByteArray) (w : World) (hs : s.size ≤ 1000) (h0 : (atOf s 0 : Int) = k) (h1 : (rtOf (cutOf s 1 4) 4 : Int) = t) (h2 : (rtOf (cutOf s 5 8) 8 : Int) = p) (hk2 : ¬ k = 2) (hk3 : ¬ k = 3) (hk4 : ¬ k = 4) (hO : rcOk k gsn t p 0 ⟨#[]⟩ false ⟨#[]⟩ false ⟨#[]⟩ 0 = true) (hE : ¬ encStr k t p 0 ⟨#[]⟩ false ⟨#[]⟩ false ⟨#[]⟩ 0 = s) :
    Calls Tryd.prog 9 #[.int .i64 gsn, .string s] w fun e w' => e = .returned (.tuple #[.agg #[.int .i64 0, .int .i64 0, .int .i64 0, .int .i64 0, .int .i64 0, .string ⟨#[]⟩, .bool false, .string ⟨#[]⟩, .bool false, .string ⟨#[]⟩, .int .i64 0], .bool false]) ∧ Below w.heap.size w w' := by
  have A0 := Lib.hid (fun W => refAt_any s 0 W hs (by omega))
  rw [h0, show ((0 : Nat) : Int) = (0 : Int) from rfl] at A0
  have C1 := Lib.hid (fun W => refCut_any s 1 4 W hs (by omega) (by omega))
  rw [show ((1 : Nat) : Int) = (1 : Int) from rfl, show ((4 : Nat) : Int) = (4 : Int) from rfl] at C1
  have C5 := Lib.hid (fun W => refCut_any s 5 8 W hs (by omega) (by omega))
  rw [show ((5 : Nat) : Int) = (5 : Int) from rfl, show ((8 : Nat) : Int) = (8 : Int) from rfl] at C5
  have T4 := Lib.hid (fun W => refTake_at (cutOf s 1 4) 4 W (by omega) (by have := cutOf_size s 1 4; omega))
  have T8 := Lib.hid (fun W => refTake_at (cutOf s 5 8) 8 W (by omega) (by have := cutOf_size s 5 8; omega))
  rw [h1] at T4
  rw [h2] at T8
  generalize cutOf s 1 4 = x1 at C1 T4
  generalize cutOf s 5 8 = x5 at C5 T8
  generalize rtOk x1 4 = y1 at T4
  generalize rtOk x5 8 = y5 at T8
  have KP := Lib.hid (fun W => page_any k W)
  have e2 : (k == 2) = false := by rw [beq_eq_false_iff_ne]; exact hk2
  have e3 : (k == 3) = false := by rw [beq_eq_false_iff_ne]; exact hk3
  have e4 : (k == 4) = false := by rw [beq_eq_false_iff_ne]; exact hk4
  rw [e2, e3] at KP
  have KR := Lib.hid (fun W => refRight_any k gsn t p 0 0 ⟨#[]⟩ ⟨#[]⟩ ⟨#[]⟩ false false W)
  rw [hO] at KR
  have KE := Lib.hid (fun W => refEncode_any k gsn t p 0 0 ⟨#[]⟩ ⟨#[]⟩ ⟨#[]⟩ false false W hO)
  generalize encStr k t p 0 ⟨#[]⟩ false ⟨#[]⟩ false ⟨#[]⟩ 0 = E at KE hE
  have hne : (E.toList == s.toList) = false := by rw [beq_eq_false_iff_ne]; exact fun e => hE (ba_ext (by rw [← ByteArray.toList_eq, ← ByteArray.toList_eq]; exact e))
  clear h0 h1 h2 hO hk2 hk3 hk4 hE
  go_enter Tryd.func9, Tryd.ntmps9
  go_wp2_with fail
  refine (A0.out _).mono ?_
  rintro x w1 ⟨rfl, rfl⟩
  go_wp2_with fail
  refine (C1.out _).mono ?_
  rintro x w1 ⟨rfl, rfl⟩
  go_wp2_with fail
  refine (T4.out _).mono ?_
  rintro x w1 ⟨rfl, rfl⟩
  go_wp2_with fail
  refine (C5.out _).mono ?_
  rintro x w1 ⟨rfl, rfl⟩
  go_wp2_with fail
  refine (T8.out _).mono ?_
  rintro x w1 ⟨rfl, rfl⟩
  go_wp2_with fail
  refine (KP.out _).mono ?_
  rintro x w1 ⟨rfl, rfl⟩
  go_wp2_with fail
  refine (KR.out _).mono ?_
  rintro x w5 ⟨rfl, hb5⟩
  have r0 : w5.cell? ⟨w.heap.size + 1, 0, none⟩ = some (.int .i64 k) := keep_cell hb5 (new_cell (by rw [World.size_alloc]) rfl)
  have r1 : w5.cell? ⟨w.heap.size + 1, 1, none⟩ = some (.int .i64 gsn) := keep_cell hb5 (new_cell (by rw [World.size_alloc]) rfl)
  have r2 : w5.cell? ⟨w.heap.size + 1, 2, none⟩ = some (.int .i64 t) := keep_cell hb5 (new_cell (by rw [World.size_alloc]) rfl)
  have r3 : w5.cell? ⟨w.heap.size + 1, 3, none⟩ = some (.int .i64 p) := keep_cell hb5 (new_cell (by rw [World.size_alloc]) rfl)
  have r4 : w5.cell? ⟨w.heap.size + 1, 4, none⟩ = some (.int .i64 0) := keep_cell hb5 (new_cell (by rw [World.size_alloc]) rfl)
  have r5 : w5.cell? ⟨w.heap.size + 1, 5, none⟩ = some (.string ⟨#[]⟩) := keep_cell hb5 (new_cell (by rw [World.size_alloc]) rfl)
  have r6 : w5.cell? ⟨w.heap.size + 1, 6, none⟩ = some (.bool false) := keep_cell hb5 (new_cell (by rw [World.size_alloc]) rfl)
  have r7 : w5.cell? ⟨w.heap.size + 1, 7, none⟩ = some (.string ⟨#[]⟩) := keep_cell hb5 (new_cell (by rw [World.size_alloc]) rfl)
  have r8 : w5.cell? ⟨w.heap.size + 1, 8, none⟩ = some (.bool false) := keep_cell hb5 (new_cell (by rw [World.size_alloc]) rfl)
  have r9 : w5.cell? ⟨w.heap.size + 1, 9, none⟩ = some (.string ⟨#[]⟩) := keep_cell hb5 (new_cell (by rw [World.size_alloc]) rfl)
  have r10 : w5.cell? ⟨w.heap.size + 1, 10, none⟩ = some (.int .i64 0) := keep_cell hb5 (new_cell (by rw [World.size_alloc]) rfl)
  have y0 : w5.cell? ⟨w.heap.size, 0, none⟩ = some (.int .i64 0) := keep_cell hb5 (keep_alloc (new_cell rfl rfl))
  have y1 : w5.cell? ⟨w.heap.size, 1, none⟩ = some (.int .i64 0) := keep_cell hb5 (keep_alloc (new_cell rfl rfl))
  have y2 : w5.cell? ⟨w.heap.size, 2, none⟩ = some (.int .i64 0) := keep_cell hb5 (keep_alloc (new_cell rfl rfl))
  have y3 : w5.cell? ⟨w.heap.size, 3, none⟩ = some (.int .i64 0) := keep_cell hb5 (keep_alloc (new_cell rfl rfl))
  have y4 : w5.cell? ⟨w.heap.size, 4, none⟩ = some (.int .i64 0) := keep_cell hb5 (keep_alloc (new_cell rfl rfl))
  have y5 : w5.cell? ⟨w.heap.size, 5, none⟩ = some (.string ⟨#[]⟩) := keep_cell hb5 (keep_alloc (new_cell rfl rfl))
  have y6 : w5.cell? ⟨w.heap.size, 6, none⟩ = some (.bool false) := keep_cell hb5 (keep_alloc (new_cell rfl rfl))
  have y7 : w5.cell? ⟨w.heap.size, 7, none⟩ = some (.string ⟨#[]⟩) := keep_cell hb5 (keep_alloc (new_cell rfl rfl))
  have y8 : w5.cell? ⟨w.heap.size, 8, none⟩ = some (.bool false) := keep_cell hb5 (keep_alloc (new_cell rfl rfl))
  have y9 : w5.cell? ⟨w.heap.size, 9, none⟩ = some (.string ⟨#[]⟩) := keep_cell hb5 (keep_alloc (new_cell rfl rfl))
  have y10 : w5.cell? ⟨w.heap.size, 10, none⟩ = some (.int .i64 0) := keep_cell hb5 (keep_alloc (new_cell rfl rfl))
  have yf : ∀ i, w5.frozen? ⟨w.heap.size, i, none⟩ = false := fun i => by
    refine (hb5.frozen (p := ⟨w.heap.size, i, none⟩) (by simp only [World.size_alloc]; omega)).trans ?_
    rw [World.frozen?_alloc_past _ _ _ (by rw [World.size_alloc]; omega)]
    exact World.frozen?_alloc_at _ _ _ _ rfl
  have hbw : Below w.heap.size w w5 := bw_call hb5 (bw_alloc (bw_alloc (Below.refl _ _)))
  clear hb5 KR
  go_wp2_with fail
  refine (KE.out _).mono ?_
  rintro x w6 ⟨rfl, hb6⟩
  replace r0 := keep_cell hb6 r0
  replace r1 := keep_cell hb6 r1
  replace r2 := keep_cell hb6 r2
  replace r3 := keep_cell hb6 r3
  replace r4 := keep_cell hb6 r4
  replace r5 := keep_cell hb6 r5
  replace r6 := keep_cell hb6 r6
  replace r7 := keep_cell hb6 r7
  replace r8 := keep_cell hb6 r8
  replace r9 := keep_cell hb6 r9
  replace r10 := keep_cell hb6 r10
  replace yf : ∀ i, w6.frozen? ⟨w.heap.size, i, none⟩ = false := fun i => (hb6.frozen (p := ⟨w.heap.size, i, none⟩) (block_lt (p := ⟨w.heap.size, 0, none⟩) y0)).trans (yf i)
  replace y0 := keep_cell hb6 y0
  replace y1 := keep_cell hb6 y1
  replace y2 := keep_cell hb6 y2
  replace y3 := keep_cell hb6 y3
  replace y4 := keep_cell hb6 y4
  replace y5 := keep_cell hb6 y5
  replace y6 := keep_cell hb6 y6
  replace y7 := keep_cell hb6 y7
  replace y8 := keep_cell hb6 y8
  replace y9 := keep_cell hb6 y9
  replace y10 := keep_cell hb6 y10
  replace hbw := bw_call hb6 hbw
  clear hb6 KE
  go_wp2
  obtain ⟨X, hX, e20, e21, e22, e23, e24, e25, e26, e27, e28, e29, e30, hbX⟩ := set11 (v0 := .int .i64 0) (v1 := .int .i64 0) (v2 := .int .i64 0) (v3 := .int .i64 0) (v4 := .int .i64 0) (v5 := .string ⟨#[]⟩) (v6 := .bool false) (v7 := .string ⟨#[]⟩) (v8 := .bool false) (v9 := .string ⟨#[]⟩) (v10 := .int .i64 0) hbw (Nat.le_refl _) y0 y1 y2 y3 y4 y5 y6 y7 y8 y9 y10
  rw [← hX]
  refine bodyPost_ret (v := .tuple #[.agg #[.int .i64 0, .int .i64 0, .int .i64 0, .int .i64 0, .int .i64 0, .string ⟨#[]⟩, .bool false, .string ⟨#[]⟩, .bool false, .string ⟨#[]⟩, .int .i64 0], .bool false]) ?_ rfl ⟨rfl, hbX⟩
  simp [results, Tryd.results9, go_sem, e20, e21, e22, e23, e24, e25, e26, e27, e28, e29, e30]

set_option maxRecDepth 100000 in
set_option maxHeartbeats 4000000 in
theorem refDecode_po_yes (gsn k t p : Int) (s : ByteArray) (w : World) (hs : s.size ≤ 1000) (h0 : (atOf s 0 : Int) = k) (h1 : (rtOf (cutOf s 1 4) 4 : Int) = t) (h2 : (rtOf (cutOf s 5 8) 8 : Int) = p) (hk2 : ¬ k = 2) (hk3 : ¬ k = 3) (hk4 : ¬ k = 4) (hO : rcOk k gsn t p 0 ⟨#[]⟩ false ⟨#[]⟩ false ⟨#[]⟩ 0 = true) (hE : encStr k t p 0 ⟨#[]⟩ false ⟨#[]⟩ false ⟨#[]⟩ 0 = s) :
    Calls Tryd.prog 9 #[.int .i64 gsn, .string s] w fun e w' => e = .returned (.tuple #[.agg #[.int .i64 k, .int .i64 gsn, .int .i64 t, .int .i64 p, .int .i64 0, .string ⟨#[]⟩, .bool false, .string ⟨#[]⟩, .bool false, .string ⟨#[]⟩, .int .i64 0], .bool true]) ∧ Below w.heap.size w w' := by
  have A0 := Lib.hid (fun W => refAt_any s 0 W hs (by omega))
  rw [h0, show ((0 : Nat) : Int) = (0 : Int) from rfl] at A0
  have C1 := Lib.hid (fun W => refCut_any s 1 4 W hs (by omega) (by omega))
  rw [show ((1 : Nat) : Int) = (1 : Int) from rfl, show ((4 : Nat) : Int) = (4 : Int) from rfl] at C1
  have C5 := Lib.hid (fun W => refCut_any s 5 8 W hs (by omega) (by omega))
  rw [show ((5 : Nat) : Int) = (5 : Int) from rfl, show ((8 : Nat) : Int) = (8 : Int) from rfl] at C5
  have T4 := Lib.hid (fun W => refTake_at (cutOf s 1 4) 4 W (by omega) (by have := cutOf_size s 1 4; omega))
  have T8 := Lib.hid (fun W => refTake_at (cutOf s 5 8) 8 W (by omega) (by have := cutOf_size s 5 8; omega))
  rw [h1] at T4
  rw [h2] at T8
  generalize cutOf s 1 4 = x1 at C1 T4
  generalize cutOf s 5 8 = x5 at C5 T8
  generalize rtOk x1 4 = y1 at T4
  generalize rtOk x5 8 = y5 at T8
  have KP := Lib.hid (fun W => page_any k W)
  have e2 : (k == 2) = false := by rw [beq_eq_false_iff_ne]; exact hk2
  have e3 : (k == 3) = false := by rw [beq_eq_false_iff_ne]; exact hk3
  have e4 : (k == 4) = false := by rw [beq_eq_false_iff_ne]; exact hk4
  rw [e2, e3] at KP
  have KR := Lib.hid (fun W => refRight_any k gsn t p 0 0 ⟨#[]⟩ ⟨#[]⟩ ⟨#[]⟩ false false W)
  rw [hO] at KR
  have KE := Lib.hid (fun W => refEncode_any k gsn t p 0 0 ⟨#[]⟩ ⟨#[]⟩ ⟨#[]⟩ false false W hO)
  rw [hE] at KE
  clear h0 h1 h2 hO hk2 hk3 hk4 hE
  go_enter Tryd.func9, Tryd.ntmps9
  go_wp2_with fail
  refine (A0.out _).mono ?_
  rintro x w1 ⟨rfl, rfl⟩
  go_wp2_with fail
  refine (C1.out _).mono ?_
  rintro x w1 ⟨rfl, rfl⟩
  go_wp2_with fail
  refine (T4.out _).mono ?_
  rintro x w1 ⟨rfl, rfl⟩
  go_wp2_with fail
  refine (C5.out _).mono ?_
  rintro x w1 ⟨rfl, rfl⟩
  go_wp2_with fail
  refine (T8.out _).mono ?_
  rintro x w1 ⟨rfl, rfl⟩
  go_wp2_with fail
  refine (KP.out _).mono ?_
  rintro x w1 ⟨rfl, rfl⟩
  go_wp2_with fail
  refine (KR.out _).mono ?_
  rintro x w5 ⟨rfl, hb5⟩
  have r0 : w5.cell? ⟨w.heap.size + 1, 0, none⟩ = some (.int .i64 k) := keep_cell hb5 (new_cell (by rw [World.size_alloc]) rfl)
  have r1 : w5.cell? ⟨w.heap.size + 1, 1, none⟩ = some (.int .i64 gsn) := keep_cell hb5 (new_cell (by rw [World.size_alloc]) rfl)
  have r2 : w5.cell? ⟨w.heap.size + 1, 2, none⟩ = some (.int .i64 t) := keep_cell hb5 (new_cell (by rw [World.size_alloc]) rfl)
  have r3 : w5.cell? ⟨w.heap.size + 1, 3, none⟩ = some (.int .i64 p) := keep_cell hb5 (new_cell (by rw [World.size_alloc]) rfl)
  have r4 : w5.cell? ⟨w.heap.size + 1, 4, none⟩ = some (.int .i64 0) := keep_cell hb5 (new_cell (by rw [World.size_alloc]) rfl)
  have r5 : w5.cell? ⟨w.heap.size + 1, 5, none⟩ = some (.string ⟨#[]⟩) := keep_cell hb5 (new_cell (by rw [World.size_alloc]) rfl)
  have r6 : w5.cell? ⟨w.heap.size + 1, 6, none⟩ = some (.bool false) := keep_cell hb5 (new_cell (by rw [World.size_alloc]) rfl)
  have r7 : w5.cell? ⟨w.heap.size + 1, 7, none⟩ = some (.string ⟨#[]⟩) := keep_cell hb5 (new_cell (by rw [World.size_alloc]) rfl)
  have r8 : w5.cell? ⟨w.heap.size + 1, 8, none⟩ = some (.bool false) := keep_cell hb5 (new_cell (by rw [World.size_alloc]) rfl)
  have r9 : w5.cell? ⟨w.heap.size + 1, 9, none⟩ = some (.string ⟨#[]⟩) := keep_cell hb5 (new_cell (by rw [World.size_alloc]) rfl)
  have r10 : w5.cell? ⟨w.heap.size + 1, 10, none⟩ = some (.int .i64 0) := keep_cell hb5 (new_cell (by rw [World.size_alloc]) rfl)
  have y0 : w5.cell? ⟨w.heap.size, 0, none⟩ = some (.int .i64 0) := keep_cell hb5 (keep_alloc (new_cell rfl rfl))
  have y1 : w5.cell? ⟨w.heap.size, 1, none⟩ = some (.int .i64 0) := keep_cell hb5 (keep_alloc (new_cell rfl rfl))
  have y2 : w5.cell? ⟨w.heap.size, 2, none⟩ = some (.int .i64 0) := keep_cell hb5 (keep_alloc (new_cell rfl rfl))
  have y3 : w5.cell? ⟨w.heap.size, 3, none⟩ = some (.int .i64 0) := keep_cell hb5 (keep_alloc (new_cell rfl rfl))
  have y4 : w5.cell? ⟨w.heap.size, 4, none⟩ = some (.int .i64 0) := keep_cell hb5 (keep_alloc (new_cell rfl rfl))
  have y5 : w5.cell? ⟨w.heap.size, 5, none⟩ = some (.string ⟨#[]⟩) := keep_cell hb5 (keep_alloc (new_cell rfl rfl))
  have y6 : w5.cell? ⟨w.heap.size, 6, none⟩ = some (.bool false) := keep_cell hb5 (keep_alloc (new_cell rfl rfl))
  have y7 : w5.cell? ⟨w.heap.size, 7, none⟩ = some (.string ⟨#[]⟩) := keep_cell hb5 (keep_alloc (new_cell rfl rfl))
  have y8 : w5.cell? ⟨w.heap.size, 8, none⟩ = some (.bool false) := keep_cell hb5 (keep_alloc (new_cell rfl rfl))
  have y9 : w5.cell? ⟨w.heap.size, 9, none⟩ = some (.string ⟨#[]⟩) := keep_cell hb5 (keep_alloc (new_cell rfl rfl))
  have y10 : w5.cell? ⟨w.heap.size, 10, none⟩ = some (.int .i64 0) := keep_cell hb5 (keep_alloc (new_cell rfl rfl))
  have yf : ∀ i, w5.frozen? ⟨w.heap.size, i, none⟩ = false := fun i => by
    refine (hb5.frozen (p := ⟨w.heap.size, i, none⟩) (by simp only [World.size_alloc]; omega)).trans ?_
    rw [World.frozen?_alloc_past _ _ _ (by rw [World.size_alloc]; omega)]
    exact World.frozen?_alloc_at _ _ _ _ rfl
  have hbw : Below w.heap.size w w5 := bw_call hb5 (bw_alloc (bw_alloc (Below.refl _ _)))
  clear hb5 KR
  go_wp2_with fail
  refine (KE.out _).mono ?_
  rintro x w6 ⟨rfl, hb6⟩
  replace r0 := keep_cell hb6 r0
  replace r1 := keep_cell hb6 r1
  replace r2 := keep_cell hb6 r2
  replace r3 := keep_cell hb6 r3
  replace r4 := keep_cell hb6 r4
  replace r5 := keep_cell hb6 r5
  replace r6 := keep_cell hb6 r6
  replace r7 := keep_cell hb6 r7
  replace r8 := keep_cell hb6 r8
  replace r9 := keep_cell hb6 r9
  replace r10 := keep_cell hb6 r10
  replace yf : ∀ i, w6.frozen? ⟨w.heap.size, i, none⟩ = false := fun i => (hb6.frozen (p := ⟨w.heap.size, i, none⟩) (block_lt (p := ⟨w.heap.size, 0, none⟩) y0)).trans (yf i)
  replace y0 := keep_cell hb6 y0
  replace y1 := keep_cell hb6 y1
  replace y2 := keep_cell hb6 y2
  replace y3 := keep_cell hb6 y3
  replace y4 := keep_cell hb6 y4
  replace y5 := keep_cell hb6 y5
  replace y6 := keep_cell hb6 y6
  replace y7 := keep_cell hb6 y7
  replace y8 := keep_cell hb6 y8
  replace y9 := keep_cell hb6 y9
  replace y10 := keep_cell hb6 y10
  replace hbw := bw_call hb6 hbw
  clear hb6 KE
  go_wp2
  obtain ⟨X, hX, e20, e21, e22, e23, e24, e25, e26, e27, e28, e29, e30, hbX⟩ := set11 (v0 := .int .i64 k) (v1 := .int .i64 gsn) (v2 := .int .i64 t) (v3 := .int .i64 p) (v4 := .int .i64 0) (v5 := .string ⟨#[]⟩) (v6 := .bool false) (v7 := .string ⟨#[]⟩) (v8 := .bool false) (v9 := .string ⟨#[]⟩) (v10 := .int .i64 0) hbw (Nat.le_refl _) y0 y1 y2 y3 y4 y5 y6 y7 y8 y9 y10
  rw [← hX]
  refine bodyPost_ret (v := .tuple #[.agg #[.int .i64 k, .int .i64 gsn, .int .i64 t, .int .i64 p, .int .i64 0, .string ⟨#[]⟩, .bool false, .string ⟨#[]⟩, .bool false, .string ⟨#[]⟩, .int .i64 0], .bool true]) ?_ rfl ⟨rfl, hbX⟩
  simp [results, Tryd.results9, go_sem, e20, e21, e22, e23, e24, e25, e26, e27, e28, e29, e30]

set_option maxRecDepth 100000 in
set_option maxHeartbeats 4000000 in
theorem refDecode_p4_wrong (gsn t p u : Int) (s : ByteArray) (w : World) (hs : s.size ≤ 1000) (h0 : (atOf s 0 : Int) = 4) (h1 : (rtOf (cutOf s 1 4) 4 : Int) = t) (h2 : (rtOf (cutOf s 5 8) 8 : Int) = p) (h3 : (atOf s 13 : Int) = u) (hO : rcOk 4 gsn t p 0 ⟨#[]⟩ false ⟨#[]⟩ false ⟨#[]⟩ u = false) :
    Calls Tryd.prog 9 #[.int .i64 gsn, .string s] w fun e w' => e = .returned (.tuple #[.agg #[.int .i64 0, .int .i64 0, .int .i64 0, .int .i64 0, .int .i64 0, .string ⟨#[]⟩, .bool false, .string ⟨#[]⟩, .bool false, .string ⟨#[]⟩, .int .i64 0], .bool false]) ∧ Below w.heap.size w w' := by
  have A0 := Lib.hid (fun W => refAt_any s 0 W hs (by omega))
  rw [h0, show ((0 : Nat) : Int) = (0 : Int) from rfl] at A0
  have C1 := Lib.hid (fun W => refCut_any s 1 4 W hs (by omega) (by omega))
  rw [show ((1 : Nat) : Int) = (1 : Int) from rfl, show ((4 : Nat) : Int) = (4 : Int) from rfl] at C1
  have C5 := Lib.hid (fun W => refCut_any s 5 8 W hs (by omega) (by omega))
  rw [show ((5 : Nat) : Int) = (5 : Int) from rfl, show ((8 : Nat) : Int) = (8 : Int) from rfl] at C5
  have T4 := Lib.hid (fun W => refTake_at (cutOf s 1 4) 4 W (by omega) (by have := cutOf_size s 1 4; omega))
  have T8 := Lib.hid (fun W => refTake_at (cutOf s 5 8) 8 W (by omega) (by have := cutOf_size s 5 8; omega))
  rw [h1] at T4
  rw [h2] at T8
  generalize cutOf s 1 4 = x1 at C1 T4
  generalize cutOf s 5 8 = x5 at C5 T8
  generalize rtOk x1 4 = y1 at T4
  generalize rtOk x5 8 = y5 at T8
  have A13 := Lib.hid (fun W => refAt_any s 13 W hs (by omega))
  rw [h3, show ((13 : Nat) : Int) = (13 : Int) from rfl] at A13
  have KP := Lib.hid (fun W => page_any 4 W)
  have KR := Lib.hid (fun W => refRight_any 4 gsn t p 0 u ⟨#[]⟩ ⟨#[]⟩ ⟨#[]⟩ false false W)
  rw [hO] at KR
  clear h0 h1 h2 hO h3
  go_enter Tryd.func9, Tryd.ntmps9
  go_wp2_with fail
  refine (A0.out _).mono ?_
  rintro x w1 ⟨rfl, rfl⟩
  go_wp2_with fail
  refine (C1.out _).mono ?_
  rintro x w1 ⟨rfl, rfl⟩
  go_wp2_with fail
  refine (T4.out _).mono ?_
  rintro x w1 ⟨rfl, rfl⟩
  go_wp2_with fail
  refine (C5.out _).mono ?_
  rintro x w1 ⟨rfl, rfl⟩
  go_wp2_with fail
  refine (T8.out _).mono ?_
  rintro x w1 ⟨rfl, rfl⟩
  go_wp2_with fail
  refine (KP.out _).mono ?_
  rintro x w1 ⟨rfl, rfl⟩
  go_wp2_with fail
  refine (A13.out _).mono ?_
  rintro x w1 ⟨rfl, rfl⟩
  go_wp2_with fail
  refine (KR.out _).mono ?_
  rintro x w5 ⟨rfl, hb5⟩
  have r0 : w5.cell? ⟨w.heap.size + 1, 0, none⟩ = some (.int .i64 4) := keep_cell hb5 (new_cell (by rw [World.size_alloc]) rfl)
  have r1 : w5.cell? ⟨w.heap.size + 1, 1, none⟩ = some (.int .i64 gsn) := keep_cell hb5 (new_cell (by rw [World.size_alloc]) rfl)
  have r2 : w5.cell? ⟨w.heap.size + 1, 2, none⟩ = some (.int .i64 t) := keep_cell hb5 (new_cell (by rw [World.size_alloc]) rfl)
  have r3 : w5.cell? ⟨w.heap.size + 1, 3, none⟩ = some (.int .i64 p) := keep_cell hb5 (new_cell (by rw [World.size_alloc]) rfl)
  have r4 : w5.cell? ⟨w.heap.size + 1, 4, none⟩ = some (.int .i64 0) := keep_cell hb5 (new_cell (by rw [World.size_alloc]) rfl)
  have r5 : w5.cell? ⟨w.heap.size + 1, 5, none⟩ = some (.string ⟨#[]⟩) := keep_cell hb5 (new_cell (by rw [World.size_alloc]) rfl)
  have r6 : w5.cell? ⟨w.heap.size + 1, 6, none⟩ = some (.bool false) := keep_cell hb5 (new_cell (by rw [World.size_alloc]) rfl)
  have r7 : w5.cell? ⟨w.heap.size + 1, 7, none⟩ = some (.string ⟨#[]⟩) := keep_cell hb5 (new_cell (by rw [World.size_alloc]) rfl)
  have r8 : w5.cell? ⟨w.heap.size + 1, 8, none⟩ = some (.bool false) := keep_cell hb5 (new_cell (by rw [World.size_alloc]) rfl)
  have r9 : w5.cell? ⟨w.heap.size + 1, 9, none⟩ = some (.string ⟨#[]⟩) := keep_cell hb5 (new_cell (by rw [World.size_alloc]) rfl)
  have r10 : w5.cell? ⟨w.heap.size + 1, 10, none⟩ = some (.int .i64 u) := keep_cell hb5 (new_cell (by rw [World.size_alloc]) rfl)
  have y0 : w5.cell? ⟨w.heap.size, 0, none⟩ = some (.int .i64 0) := keep_cell hb5 (keep_alloc (new_cell rfl rfl))
  have y1 : w5.cell? ⟨w.heap.size, 1, none⟩ = some (.int .i64 0) := keep_cell hb5 (keep_alloc (new_cell rfl rfl))
  have y2 : w5.cell? ⟨w.heap.size, 2, none⟩ = some (.int .i64 0) := keep_cell hb5 (keep_alloc (new_cell rfl rfl))
  have y3 : w5.cell? ⟨w.heap.size, 3, none⟩ = some (.int .i64 0) := keep_cell hb5 (keep_alloc (new_cell rfl rfl))
  have y4 : w5.cell? ⟨w.heap.size, 4, none⟩ = some (.int .i64 0) := keep_cell hb5 (keep_alloc (new_cell rfl rfl))
  have y5 : w5.cell? ⟨w.heap.size, 5, none⟩ = some (.string ⟨#[]⟩) := keep_cell hb5 (keep_alloc (new_cell rfl rfl))
  have y6 : w5.cell? ⟨w.heap.size, 6, none⟩ = some (.bool false) := keep_cell hb5 (keep_alloc (new_cell rfl rfl))
  have y7 : w5.cell? ⟨w.heap.size, 7, none⟩ = some (.string ⟨#[]⟩) := keep_cell hb5 (keep_alloc (new_cell rfl rfl))
  have y8 : w5.cell? ⟨w.heap.size, 8, none⟩ = some (.bool false) := keep_cell hb5 (keep_alloc (new_cell rfl rfl))
  have y9 : w5.cell? ⟨w.heap.size, 9, none⟩ = some (.string ⟨#[]⟩) := keep_cell hb5 (keep_alloc (new_cell rfl rfl))
  have y10 : w5.cell? ⟨w.heap.size, 10, none⟩ = some (.int .i64 0) := keep_cell hb5 (keep_alloc (new_cell rfl rfl))
  have yf : ∀ i, w5.frozen? ⟨w.heap.size, i, none⟩ = false := fun i => by
    refine (hb5.frozen (p := ⟨w.heap.size, i, none⟩) (by simp only [World.size_alloc]; omega)).trans ?_
    rw [World.frozen?_alloc_past _ _ _ (by rw [World.size_alloc]; omega)]
    exact World.frozen?_alloc_at _ _ _ _ rfl
  have hbw : Below w.heap.size w w5 := bw_call hb5 (bw_alloc (bw_alloc (Below.refl _ _)))
  clear hb5 KR
  go_wp2
  obtain ⟨X, hX, e20, e21, e22, e23, e24, e25, e26, e27, e28, e29, e30, hbX⟩ := set11 (v0 := .int .i64 0) (v1 := .int .i64 0) (v2 := .int .i64 0) (v3 := .int .i64 0) (v4 := .int .i64 0) (v5 := .string ⟨#[]⟩) (v6 := .bool false) (v7 := .string ⟨#[]⟩) (v8 := .bool false) (v9 := .string ⟨#[]⟩) (v10 := .int .i64 0) hbw (Nat.le_refl _) y0 y1 y2 y3 y4 y5 y6 y7 y8 y9 y10
  rw [← hX]
  refine bodyPost_ret (v := .tuple #[.agg #[.int .i64 0, .int .i64 0, .int .i64 0, .int .i64 0, .int .i64 0, .string ⟨#[]⟩, .bool false, .string ⟨#[]⟩, .bool false, .string ⟨#[]⟩, .int .i64 0], .bool false]) ?_ rfl ⟨rfl, hbX⟩
  simp [results, Tryd.results9, go_sem, e20, e21, e22, e23, e24, e25, e26, e27, e28, e29, e30]

set_option maxRecDepth 100000 in
set_option maxHeartbeats 4000000 in
theorem refDecode_p4_other (gsn t p u : Int) (s : ByteArray) (w : World) (hs : s.size ≤ 1000) (h0 : (atOf s 0 : Int) = 4) (h1 : (rtOf (cutOf s 1 4) 4 : Int) = t) (h2 : (rtOf (cutOf s 5 8) 8 : Int) = p) (h3 : (atOf s 13 : Int) = u) (hO : rcOk 4 gsn t p 0 ⟨#[]⟩ false ⟨#[]⟩ false ⟨#[]⟩ u = true) (hE : ¬ encStr 4 t p 0 ⟨#[]⟩ false ⟨#[]⟩ false ⟨#[]⟩ u = s) :
    Calls Tryd.prog 9 #[.int .i64 gsn, .string s] w fun e w' => e = .returned (.tuple #[.agg #[.int .i64 0, .int .i64 0, .int .i64 0, .int .i64 0, .int .i64 0, .string ⟨#[]⟩, .bool false, .string ⟨#[]⟩, .bool false, .string ⟨#[]⟩, .int .i64 0], .bool false]) ∧ Below w.heap.size w w' := by
  have A0 := Lib.hid (fun W => refAt_any s 0 W hs (by omega))
  rw [h0, show ((0 : Nat) : Int) = (0 : Int) from rfl] at A0
  have C1 := Lib.hid (fun W => refCut_any s 1 4 W hs (by omega) (by omega))
  rw [show ((1 : Nat) : Int) = (1 : Int) from rfl, show ((4 : Nat) : Int) = (4 : Int) from rfl] at C1
  have C5 := Lib.hid (fun W => refCut_any s 5 8 W hs (by omega) (by omega))
  rw [show ((5 : Nat) : Int) = (5 : Int) from rfl, show ((8 : Nat) : Int) = (8 : Int) from rfl] at C5
  have T4 := Lib.hid (fun W => refTake_at (cutOf s 1 4) 4 W (by omega) (by have := cutOf_size s 1 4; omega))
  have T8 := Lib.hid (fun W => refTake_at (cutOf s 5 8) 8 W (by omega) (by have := cutOf_size s 5 8; omega))
  rw [h1] at T4
  rw [h2] at T8
  generalize cutOf s 1 4 = x1 at C1 T4
  generalize cutOf s 5 8 = x5 at C5 T8
  generalize rtOk x1 4 = y1 at T4
  generalize rtOk x5 8 = y5 at T8
  have A13 := Lib.hid (fun W => refAt_any s 13 W hs (by omega))
  rw [h3, show ((13 : Nat) : Int) = (13 : Int) from rfl] at A13
  have KP := Lib.hid (fun W => page_any 4 W)
  have KR := Lib.hid (fun W => refRight_any 4 gsn t p 0 u ⟨#[]⟩ ⟨#[]⟩ ⟨#[]⟩ false false W)
  rw [hO] at KR
  have KE := Lib.hid (fun W => refEncode_any 4 gsn t p 0 u ⟨#[]⟩ ⟨#[]⟩ ⟨#[]⟩ false false W hO)
  generalize encStr 4 t p 0 ⟨#[]⟩ false ⟨#[]⟩ false ⟨#[]⟩ u = E at KE hE
  have hne : (E.toList == s.toList) = false := by rw [beq_eq_false_iff_ne]; exact fun e => hE (ba_ext (by rw [← ByteArray.toList_eq, ← ByteArray.toList_eq]; exact e))
  clear h0 h1 h2 hO h3 hE
  go_enter Tryd.func9, Tryd.ntmps9
  go_wp2_with fail
  refine (A0.out _).mono ?_
  rintro x w1 ⟨rfl, rfl⟩
  go_wp2_with fail
  refine (C1.out _).mono ?_
  rintro x w1 ⟨rfl, rfl⟩
  go_wp2_with fail
  refine (T4.out _).mono ?_
  rintro x w1 ⟨rfl, rfl⟩
  go_wp2_with fail
  refine (C5.out _).mono ?_
  rintro x w1 ⟨rfl, rfl⟩
  go_wp2_with fail
  refine (T8.out _).mono ?_
  rintro x w1 ⟨rfl, rfl⟩
  go_wp2_with fail
  refine (KP.out _).mono ?_
  rintro x w1 ⟨rfl, rfl⟩
  go_wp2_with fail
  refine (A13.out _).mono ?_
  rintro x w1 ⟨rfl, rfl⟩
  go_wp2_with fail
  refine (KR.out _).mono ?_
  rintro x w5 ⟨rfl, hb5⟩
  have r0 : w5.cell? ⟨w.heap.size + 1, 0, none⟩ = some (.int .i64 4) := keep_cell hb5 (new_cell (by rw [World.size_alloc]) rfl)
  have r1 : w5.cell? ⟨w.heap.size + 1, 1, none⟩ = some (.int .i64 gsn) := keep_cell hb5 (new_cell (by rw [World.size_alloc]) rfl)
  have r2 : w5.cell? ⟨w.heap.size + 1, 2, none⟩ = some (.int .i64 t) := keep_cell hb5 (new_cell (by rw [World.size_alloc]) rfl)
  have r3 : w5.cell? ⟨w.heap.size + 1, 3, none⟩ = some (.int .i64 p) := keep_cell hb5 (new_cell (by rw [World.size_alloc]) rfl)
  have r4 : w5.cell? ⟨w.heap.size + 1, 4, none⟩ = some (.int .i64 0) := keep_cell hb5 (new_cell (by rw [World.size_alloc]) rfl)
  have r5 : w5.cell? ⟨w.heap.size + 1, 5, none⟩ = some (.string ⟨#[]⟩) := keep_cell hb5 (new_cell (by rw [World.size_alloc]) rfl)
  have r6 : w5.cell? ⟨w.heap.size + 1, 6, none⟩ = some (.bool false) := keep_cell hb5 (new_cell (by rw [World.size_alloc]) rfl)
  have r7 : w5.cell? ⟨w.heap.size + 1, 7, none⟩ = some (.string ⟨#[]⟩) := keep_cell hb5 (new_cell (by rw [World.size_alloc]) rfl)
  have r8 : w5.cell? ⟨w.heap.size + 1, 8, none⟩ = some (.bool false) := keep_cell hb5 (new_cell (by rw [World.size_alloc]) rfl)
  have r9 : w5.cell? ⟨w.heap.size + 1, 9, none⟩ = some (.string ⟨#[]⟩) := keep_cell hb5 (new_cell (by rw [World.size_alloc]) rfl)
  have r10 : w5.cell? ⟨w.heap.size + 1, 10, none⟩ = some (.int .i64 u) := keep_cell hb5 (new_cell (by rw [World.size_alloc]) rfl)
  have y0 : w5.cell? ⟨w.heap.size, 0, none⟩ = some (.int .i64 0) := keep_cell hb5 (keep_alloc (new_cell rfl rfl))
  have y1 : w5.cell? ⟨w.heap.size, 1, none⟩ = some (.int .i64 0) := keep_cell hb5 (keep_alloc (new_cell rfl rfl))
  have y2 : w5.cell? ⟨w.heap.size, 2, none⟩ = some (.int .i64 0) := keep_cell hb5 (keep_alloc (new_cell rfl rfl))
  have y3 : w5.cell? ⟨w.heap.size, 3, none⟩ = some (.int .i64 0) := keep_cell hb5 (keep_alloc (new_cell rfl rfl))
  have y4 : w5.cell? ⟨w.heap.size, 4, none⟩ = some (.int .i64 0) := keep_cell hb5 (keep_alloc (new_cell rfl rfl))
  have y5 : w5.cell? ⟨w.heap.size, 5, none⟩ = some (.string ⟨#[]⟩) := keep_cell hb5 (keep_alloc (new_cell rfl rfl))
  have y6 : w5.cell? ⟨w.heap.size, 6, none⟩ = some (.bool false) := keep_cell hb5 (keep_alloc (new_cell rfl rfl))
  have y7 : w5.cell? ⟨w.heap.size, 7, none⟩ = some (.string ⟨#[]⟩) := keep_cell hb5 (keep_alloc (new_cell rfl rfl))
  have y8 : w5.cell? ⟨w.heap.size, 8, none⟩ = some (.bool false) := keep_cell hb5 (keep_alloc (new_cell rfl rfl))
  have y9 : w5.cell? ⟨w.heap.size, 9, none⟩ = some (.string ⟨#[]⟩) := keep_cell hb5 (keep_alloc (new_cell rfl rfl))
  have y10 : w5.cell? ⟨w.heap.size, 10, none⟩ = some (.int .i64 0) := keep_cell hb5 (keep_alloc (new_cell rfl rfl))
  have yf : ∀ i, w5.frozen? ⟨w.heap.size, i, none⟩ = false := fun i => by
    refine (hb5.frozen (p := ⟨w.heap.size, i, none⟩) (by simp only [World.size_alloc]; omega)).trans ?_
    rw [World.frozen?_alloc_past _ _ _ (by rw [World.size_alloc]; omega)]
    exact World.frozen?_alloc_at _ _ _ _ rfl
  have hbw : Below w.heap.size w w5 := bw_call hb5 (bw_alloc (bw_alloc (Below.refl _ _)))
  clear hb5 KR
  go_wp2_with fail
  refine (KE.out _).mono ?_
  rintro x w6 ⟨rfl, hb6⟩
  replace r0 := keep_cell hb6 r0
  replace r1 := keep_cell hb6 r1
  replace r2 := keep_cell hb6 r2
  replace r3 := keep_cell hb6 r3
  replace r4 := keep_cell hb6 r4
  replace r5 := keep_cell hb6 r5
  replace r6 := keep_cell hb6 r6
  replace r7 := keep_cell hb6 r7
  replace r8 := keep_cell hb6 r8
  replace r9 := keep_cell hb6 r9
  replace r10 := keep_cell hb6 r10
  replace yf : ∀ i, w6.frozen? ⟨w.heap.size, i, none⟩ = false := fun i => (hb6.frozen (p := ⟨w.heap.size, i, none⟩) (block_lt (p := ⟨w.heap.size, 0, none⟩) y0)).trans (yf i)
  replace y0 := keep_cell hb6 y0
  replace y1 := keep_cell hb6 y1
  replace y2 := keep_cell hb6 y2
  replace y3 := keep_cell hb6 y3
  replace y4 := keep_cell hb6 y4
  replace y5 := keep_cell hb6 y5
  replace y6 := keep_cell hb6 y6
  replace y7 := keep_cell hb6 y7
  replace y8 := keep_cell hb6 y8
  replace y9 := keep_cell hb6 y9
  replace y10 := keep_cell hb6 y10
  replace hbw := bw_call hb6 hbw
  clear hb6 KE
  go_wp2
  obtain ⟨X, hX, e20, e21, e22, e23, e24, e25, e26, e27, e28, e29, e30, hbX⟩ := set11 (v0 := .int .i64 0) (v1 := .int .i64 0) (v2 := .int .i64 0) (v3 := .int .i64 0) (v4 := .int .i64 0) (v5 := .string ⟨#[]⟩) (v6 := .bool false) (v7 := .string ⟨#[]⟩) (v8 := .bool false) (v9 := .string ⟨#[]⟩) (v10 := .int .i64 0) hbw (Nat.le_refl _) y0 y1 y2 y3 y4 y5 y6 y7 y8 y9 y10
  rw [← hX]
  refine bodyPost_ret (v := .tuple #[.agg #[.int .i64 0, .int .i64 0, .int .i64 0, .int .i64 0, .int .i64 0, .string ⟨#[]⟩, .bool false, .string ⟨#[]⟩, .bool false, .string ⟨#[]⟩, .int .i64 0], .bool false]) ?_ rfl ⟨rfl, hbX⟩
  simp [results, Tryd.results9, go_sem, e20, e21, e22, e23, e24, e25, e26, e27, e28, e29, e30]

set_option maxRecDepth 100000 in
set_option maxHeartbeats 4000000 in
theorem refDecode_p4_yes (gsn t p u : Int) (s : ByteArray) (w : World) (hs : s.size ≤ 1000) (h0 : (atOf s 0 : Int) = 4) (h1 : (rtOf (cutOf s 1 4) 4 : Int) = t) (h2 : (rtOf (cutOf s 5 8) 8 : Int) = p) (h3 : (atOf s 13 : Int) = u) (hO : rcOk 4 gsn t p 0 ⟨#[]⟩ false ⟨#[]⟩ false ⟨#[]⟩ u = true) (hE : encStr 4 t p 0 ⟨#[]⟩ false ⟨#[]⟩ false ⟨#[]⟩ u = s) :
    Calls Tryd.prog 9 #[.int .i64 gsn, .string s] w fun e w' => e = .returned (.tuple #[.agg #[.int .i64 4, .int .i64 gsn, .int .i64 t, .int .i64 p, .int .i64 0, .string ⟨#[]⟩, .bool false, .string ⟨#[]⟩, .bool false, .string ⟨#[]⟩, .int .i64 u], .bool true]) ∧ Below w.heap.size w w' := by
  have A0 := Lib.hid (fun W => refAt_any s 0 W hs (by omega))
  rw [h0, show ((0 : Nat) : Int) = (0 : Int) from rfl] at A0
  have C1 := Lib.hid (fun W => refCut_any s 1 4 W hs (by omega) (by omega))
  rw [show ((1 : Nat) : Int) = (1 : Int) from rfl, show ((4 : Nat) : Int) = (4 : Int) from rfl] at C1
  have C5 := Lib.hid (fun W => refCut_any s 5 8 W hs (by omega) (by omega))
  rw [show ((5 : Nat) : Int) = (5 : Int) from rfl, show ((8 : Nat) : Int) = (8 : Int) from rfl] at C5
  have T4 := Lib.hid (fun W => refTake_at (cutOf s 1 4) 4 W (by omega) (by have := cutOf_size s 1 4; omega))
  have T8 := Lib.hid (fun W => refTake_at (cutOf s 5 8) 8 W (by omega) (by have := cutOf_size s 5 8; omega))
  rw [h1] at T4
  rw [h2] at T8
  generalize cutOf s 1 4 = x1 at C1 T4
  generalize cutOf s 5 8 = x5 at C5 T8
  generalize rtOk x1 4 = y1 at T4
  generalize rtOk x5 8 = y5 at T8
  have A13 := Lib.hid (fun W => refAt_any s 13 W hs (by omega))
  rw [h3, show ((13 : Nat) : Int) = (13 : Int) from rfl] at A13
  have KP := Lib.hid (fun W => page_any 4 W)
  have KR := Lib.hid (fun W => refRight_any 4 gsn t p 0 u ⟨#[]⟩ ⟨#[]⟩ ⟨#[]⟩ false false W)
  rw [hO] at KR
  have KE := Lib.hid (fun W => refEncode_any 4 gsn t p 0 u ⟨#[]⟩ ⟨#[]⟩ ⟨#[]⟩ false false W hO)
  rw [hE] at KE
  clear h0 h1 h2 hO h3 hE
  go_enter Tryd.func9, Tryd.ntmps9
  go_wp2_with fail
  refine (A0.out _).mono ?_
  rintro x w1 ⟨rfl, rfl⟩
  go_wp2_with fail
  refine (C1.out _).mono ?_
  rintro x w1 ⟨rfl, rfl⟩
  go_wp2_with fail
  refine (T4.out _).mono ?_
  rintro x w1 ⟨rfl, rfl⟩
  go_wp2_with fail
  refine (C5.out _).mono ?_
  rintro x w1 ⟨rfl, rfl⟩
  go_wp2_with fail
  refine (T8.out _).mono ?_
  rintro x w1 ⟨rfl, rfl⟩
  go_wp2_with fail
  refine (KP.out _).mono ?_
  rintro x w1 ⟨rfl, rfl⟩
  go_wp2_with fail
  refine (A13.out _).mono ?_
  rintro x w1 ⟨rfl, rfl⟩
  go_wp2_with fail
  refine (KR.out _).mono ?_
  rintro x w5 ⟨rfl, hb5⟩
  have r0 : w5.cell? ⟨w.heap.size + 1, 0, none⟩ = some (.int .i64 4) := keep_cell hb5 (new_cell (by rw [World.size_alloc]) rfl)
  have r1 : w5.cell? ⟨w.heap.size + 1, 1, none⟩ = some (.int .i64 gsn) := keep_cell hb5 (new_cell (by rw [World.size_alloc]) rfl)
  have r2 : w5.cell? ⟨w.heap.size + 1, 2, none⟩ = some (.int .i64 t) := keep_cell hb5 (new_cell (by rw [World.size_alloc]) rfl)
  have r3 : w5.cell? ⟨w.heap.size + 1, 3, none⟩ = some (.int .i64 p) := keep_cell hb5 (new_cell (by rw [World.size_alloc]) rfl)
  have r4 : w5.cell? ⟨w.heap.size + 1, 4, none⟩ = some (.int .i64 0) := keep_cell hb5 (new_cell (by rw [World.size_alloc]) rfl)
  have r5 : w5.cell? ⟨w.heap.size + 1, 5, none⟩ = some (.string ⟨#[]⟩) := keep_cell hb5 (new_cell (by rw [World.size_alloc]) rfl)
  have r6 : w5.cell? ⟨w.heap.size + 1, 6, none⟩ = some (.bool false) := keep_cell hb5 (new_cell (by rw [World.size_alloc]) rfl)
  have r7 : w5.cell? ⟨w.heap.size + 1, 7, none⟩ = some (.string ⟨#[]⟩) := keep_cell hb5 (new_cell (by rw [World.size_alloc]) rfl)
  have r8 : w5.cell? ⟨w.heap.size + 1, 8, none⟩ = some (.bool false) := keep_cell hb5 (new_cell (by rw [World.size_alloc]) rfl)
  have r9 : w5.cell? ⟨w.heap.size + 1, 9, none⟩ = some (.string ⟨#[]⟩) := keep_cell hb5 (new_cell (by rw [World.size_alloc]) rfl)
  have r10 : w5.cell? ⟨w.heap.size + 1, 10, none⟩ = some (.int .i64 u) := keep_cell hb5 (new_cell (by rw [World.size_alloc]) rfl)
  have y0 : w5.cell? ⟨w.heap.size, 0, none⟩ = some (.int .i64 0) := keep_cell hb5 (keep_alloc (new_cell rfl rfl))
  have y1 : w5.cell? ⟨w.heap.size, 1, none⟩ = some (.int .i64 0) := keep_cell hb5 (keep_alloc (new_cell rfl rfl))
  have y2 : w5.cell? ⟨w.heap.size, 2, none⟩ = some (.int .i64 0) := keep_cell hb5 (keep_alloc (new_cell rfl rfl))
  have y3 : w5.cell? ⟨w.heap.size, 3, none⟩ = some (.int .i64 0) := keep_cell hb5 (keep_alloc (new_cell rfl rfl))
  have y4 : w5.cell? ⟨w.heap.size, 4, none⟩ = some (.int .i64 0) := keep_cell hb5 (keep_alloc (new_cell rfl rfl))
  have y5 : w5.cell? ⟨w.heap.size, 5, none⟩ = some (.string ⟨#[]⟩) := keep_cell hb5 (keep_alloc (new_cell rfl rfl))
  have y6 : w5.cell? ⟨w.heap.size, 6, none⟩ = some (.bool false) := keep_cell hb5 (keep_alloc (new_cell rfl rfl))
  have y7 : w5.cell? ⟨w.heap.size, 7, none⟩ = some (.string ⟨#[]⟩) := keep_cell hb5 (keep_alloc (new_cell rfl rfl))
  have y8 : w5.cell? ⟨w.heap.size, 8, none⟩ = some (.bool false) := keep_cell hb5 (keep_alloc (new_cell rfl rfl))
  have y9 : w5.cell? ⟨w.heap.size, 9, none⟩ = some (.string ⟨#[]⟩) := keep_cell hb5 (keep_alloc (new_cell rfl rfl))
  have y10 : w5.cell? ⟨w.heap.size, 10, none⟩ = some (.int .i64 0) := keep_cell hb5 (keep_alloc (new_cell rfl rfl))
  have yf : ∀ i, w5.frozen? ⟨w.heap.size, i, none⟩ = false := fun i => by
    refine (hb5.frozen (p := ⟨w.heap.size, i, none⟩) (by simp only [World.size_alloc]; omega)).trans ?_
    rw [World.frozen?_alloc_past _ _ _ (by rw [World.size_alloc]; omega)]
    exact World.frozen?_alloc_at _ _ _ _ rfl
  have hbw : Below w.heap.size w w5 := bw_call hb5 (bw_alloc (bw_alloc (Below.refl _ _)))
  clear hb5 KR
  go_wp2_with fail
  refine (KE.out _).mono ?_
  rintro x w6 ⟨rfl, hb6⟩
  replace r0 := keep_cell hb6 r0
  replace r1 := keep_cell hb6 r1
  replace r2 := keep_cell hb6 r2
  replace r3 := keep_cell hb6 r3
  replace r4 := keep_cell hb6 r4
  replace r5 := keep_cell hb6 r5
  replace r6 := keep_cell hb6 r6
  replace r7 := keep_cell hb6 r7
  replace r8 := keep_cell hb6 r8
  replace r9 := keep_cell hb6 r9
  replace r10 := keep_cell hb6 r10
  replace yf : ∀ i, w6.frozen? ⟨w.heap.size, i, none⟩ = false := fun i => (hb6.frozen (p := ⟨w.heap.size, i, none⟩) (block_lt (p := ⟨w.heap.size, 0, none⟩) y0)).trans (yf i)
  replace y0 := keep_cell hb6 y0
  replace y1 := keep_cell hb6 y1
  replace y2 := keep_cell hb6 y2
  replace y3 := keep_cell hb6 y3
  replace y4 := keep_cell hb6 y4
  replace y5 := keep_cell hb6 y5
  replace y6 := keep_cell hb6 y6
  replace y7 := keep_cell hb6 y7
  replace y8 := keep_cell hb6 y8
  replace y9 := keep_cell hb6 y9
  replace y10 := keep_cell hb6 y10
  replace hbw := bw_call hb6 hbw
  clear hb6 KE
  go_wp2
  obtain ⟨X, hX, e20, e21, e22, e23, e24, e25, e26, e27, e28, e29, e30, hbX⟩ := set11 (v0 := .int .i64 4) (v1 := .int .i64 gsn) (v2 := .int .i64 t) (v3 := .int .i64 p) (v4 := .int .i64 0) (v5 := .string ⟨#[]⟩) (v6 := .bool false) (v7 := .string ⟨#[]⟩) (v8 := .bool false) (v9 := .string ⟨#[]⟩) (v10 := .int .i64 u) hbw (Nat.le_refl _) y0 y1 y2 y3 y4 y5 y6 y7 y8 y9 y10
  rw [← hX]
  refine bodyPost_ret (v := .tuple #[.agg #[.int .i64 4, .int .i64 gsn, .int .i64 t, .int .i64 p, .int .i64 0, .string ⟨#[]⟩, .bool false, .string ⟨#[]⟩, .bool false, .string ⟨#[]⟩, .int .i64 u], .bool true]) ?_ rfl ⟨rfl, hbX⟩
  simp [results, Tryd.results9, go_sem, e20, e21, e22, e23, e24, e25, e26, e27, e28, e29, e30]

end Go.Proofs.YtlggbbaigcnpjaaDoor
