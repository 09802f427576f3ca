/-
  THE WALK OF quadrigalaw04.RecordSizes, updates.
-/
import Derived.Test.YtbljeagjlmdlhaaDoorRcSizes
namespace Go.Proofs.YtbljeagjlmdlhaaDoor
open Go.RowKit

set_option maxHeartbeats 4000000 in
theorem sizes_2_f (g t p pg u txn prev gsn : Int) (key sb sa : ByteArray) (hb ha : Bool) (w : World) (hn : NameAt w) (hG : rcGreat key sb sa = false) (h : rcOk 2 g t p pg key hb sb ha sa u = false) :
    Calls Tryd.prog 7 #[.agg #[.int .i64 2, .int .i64 g, .int .i64 t, .int .i64 p, .int .i64 pg, .string key, .bool hb, .string sb, .bool ha, .string sa, .int .i64 u], .int .i64 txn, .int .i64 prev, .int .i64 gsn] w fun e w' => e = .returned (.bool true) ∧ Below w.heap.size w w' := by
  have KA := Lib.hid (fun W (hW : Below w.heap.size w W) => awake_rc W (hn.below hW))
  have KG := Lib.hid (fun W => great_rc 2 g t p pg u key sb sa hb ha W)
  rw [hG] at KG
  have KE := Lib.hid (fun W => encode_any 2 g t p pg u key sb sa hb ha W)
  rw [h] at KE
  have KX := Lib.hid (fun W => encode_any 2 gsn txn prev pg u key sb sa hb ha W)
  have HX : rcBack 2 g t p pg key hb sb ha sa u gsn prev = .agg #[.int .i64 0, .int .i64 0, .int .i64 0, .int .i64 0, .int .i64 0, .string ⟨#[]⟩, .bool false, .string ⟨#[]⟩, .bool false, .string ⟨#[]⟩, .int .i64 0] := by
    unfold rcBack; rw [h]; rfl
  have KB := Lib.hid (fun W => back_any 2 g t p pg u gsn prev key sb sa hb ha W)
  rw [HX] at KB
  have KZ := Lib.hid (fun W => encode_any 0 0 0 0 0 0 ⟨#[]⟩ ⟨#[]⟩ ⟨#[]⟩ false false W)
  rw [zero_not] at KZ
  simp only [if_false, Bool.false_eq_true] at KE KZ
  generalize (if rcOk 2 gsn txn prev pg key hb sb ha sa u then encStr 2 txn prev pg key hb sb ha sa u else ⟨#[]⟩) = S2 at KX
  generalize (if rcOk 2 gsn txn prev pg key hb sb ha sa u then (0 : Int) else 1) = f2 at KX
  clear HX h hG hn
  go_enter Tryd.func7, Tryd.ntmps7
  go_wp2_with fail
  refine (KG.out _).mono ?_
  rintro x w1 ⟨rfl, hb1⟩
  have c0 : w1.cell? ⟨w.heap.size, 0, none⟩ = some (.int .i64 2) := keep_cell hb1 (new_cell rfl rfl)
  have c1 : w1.cell? ⟨w.heap.size, 1, none⟩ = some (.int .i64 g) := keep_cell hb1 (new_cell rfl rfl)
  have c2 : w1.cell? ⟨w.heap.size, 2, none⟩ = some (.int .i64 t) := keep_cell hb1 (new_cell rfl rfl)
  have c3 : w1.cell? ⟨w.heap.size, 3, none⟩ = some (.int .i64 p) := keep_cell hb1 (new_cell rfl rfl)
  have c4 : w1.cell? ⟨w.heap.size, 4, none⟩ = some (.int .i64 pg) := keep_cell hb1 (new_cell rfl rfl)
  have c5 : w1.cell? ⟨w.heap.size, 5, none⟩ = some (.string key) := keep_cell hb1 (new_cell rfl rfl)
  have c6 : w1.cell? ⟨w.heap.size, 6, none⟩ = some (.bool hb) := keep_cell hb1 (new_cell rfl rfl)
  have c7 : w1.cell? ⟨w.heap.size, 7, none⟩ = some (.string sb) := keep_cell hb1 (new_cell rfl rfl)
  have c8 : w1.cell? ⟨w.heap.size, 8, none⟩ = some (.bool ha) := keep_cell hb1 (new_cell rfl rfl)
  have c9 : w1.cell? ⟨w.heap.size, 9, none⟩ = some (.string sa) := keep_cell hb1 (new_cell rfl rfl)
  have c10 : w1.cell? ⟨w.heap.size, 10, none⟩ = some (.int .i64 u) := keep_cell hb1 (new_cell rfl rfl)
  have hw1 : Below w.heap.size w w1 := bw_call hb1 (bw_alloc (Below.refl _ _))
  clear hb1 KG
  go_wp2_with fail
  refine (KE.out _).mono ?_
  rintro x w2 ⟨rfl, hb2⟩
  have d0 := keep_cell hb2 c0
  have d1 := keep_cell hb2 c1
  have d2 := keep_cell hb2 c2
  have d3 := keep_cell hb2 c3
  have d4 := keep_cell hb2 c4
  have d5 := keep_cell hb2 c5
  have d6 := keep_cell hb2 c6
  have d7 := keep_cell hb2 c7
  have d8 := keep_cell hb2 c8
  have d9 := keep_cell hb2 c9
  have d10 := keep_cell hb2 c10
  have d0o := fun o => keep_alloc (o := o) d0
  have hw2 : Below w.heap.size w w2 := bw_call hb2 hw1
  clear hb2 hw1 KE c0 c1 c2 c3 c4 c5 c6 c7 c8 c9 c10
  go_wp2_with fail
  refine (KX.out _).mono ?_
  rintro x w3 ⟨rfl, hb3⟩
  have e0 := keep_cell hb3 (keep_alloc d0)
  have e1 := keep_cell hb3 (keep_alloc d1)
  have e2 := keep_cell hb3 (keep_alloc d2)
  have e3 := keep_cell hb3 (keep_alloc d3)
  have e4 := keep_cell hb3 (keep_alloc d4)
  have e5 := keep_cell hb3 (keep_alloc d5)
  have e6 := keep_cell hb3 (keep_alloc d6)
  have e7 := keep_cell hb3 (keep_alloc d7)
  have e8 := keep_cell hb3 (keep_alloc d8)
  have e9 := keep_cell hb3 (keep_alloc d9)
  have e10 := keep_cell hb3 (keep_alloc d10)
  have hw3 : Below w.heap.size w w3 := bw_call hb3 (bw_alloc hw2)
  clear hb3 hw2 KX d0o d0 d1 d2 d3 d4 d5 d6 d7 d8 d9 d10
  go_wp2_with fail
  refine (KB.out _).mono ?_
  rintro x w4 ⟨rfl, hb4⟩
  have f0 := fun o => keep_alloc (o := o) (keep_cell hb4 e0)
  have hw4 : Below w.heap.size w w4 := bw_call hb4 hw3
  clear hb4 hw3 KB e0 e1 e2 e3 e4 e5 e6 e7 e8 e9 e10
  go_wp2_with fail
  refine (KZ.out _).mono ?_
  rintro x w5 ⟨rfl, hb5⟩
  have g0 := keep_cell hb5 (f0 _)
  have hw5 : Below w.heap.size w w5 := bw_call hb5 (bw_alloc hw4)
  clear hb5 hw4 KZ f0
  go_wp2_with fail
  refine (KA.out _ hw5).mono ?_
  rintro x w6 ⟨rfl, hb6⟩
  go_wp2
  go_ret
  exact ⟨rfl, bw_call hb6 hw5⟩

set_option maxHeartbeats 4000000 in
theorem sizes_2_tff (g t p pg u txn prev gsn : Int) (key sb sa : ByteArray) (hb ha : Bool) (w : World) (hn : NameAt w) (hG : rcGreat key sb sa = false) (h : rcOk 2 g t p pg key hb sb ha sa u = true) (hX : rcOk 2 gsn txn prev pg key hb sb ha sa u = false) (hO : rcOk 3 gsn t prev pg key ha sa hb sb g = false) :
    Calls Tryd.prog 7 #[.agg #[.int .i64 2, .int .i64 g, .int .i64 t, .int .i64 p, .int .i64 pg, .string key, .bool hb, .string sb, .bool ha, .string sa, .int .i64 u], .int .i64 txn, .int .i64 prev, .int .i64 gsn] w fun e w' => e = .returned (.bool true) ∧ Below w.heap.size w w' := by
  have KA := Lib.hid (fun W (hW : Below w.heap.size w W) => awake_rc W (hn.below hW))
  have KG := Lib.hid (fun W => great_rc 2 g t p pg u key sb sa hb ha W)
  rw [hG] at KG
  have KE := Lib.hid (fun W => encode_any 2 g t p pg u key sb sa hb ha W)
  rw [h] at KE
  have KX := Lib.hid (fun W => encode_any 2 gsn txn prev pg u key sb sa hb ha W)
  rw [hX] at KX
  have HX : rcBack 2 g t p pg key hb sb ha sa u gsn prev = .agg #[.int .i64 0, .int .i64 0, .int .i64 0, .int .i64 0, .int .i64 0, .string ⟨#[]⟩, .bool false, .string ⟨#[]⟩, .bool false, .string ⟨#[]⟩, .int .i64 0] := by
    unfold rcBack; rw [h, hO]; rfl
  have KB := Lib.hid (fun W => back_any 2 g t p pg u gsn prev key sb sa hb ha W)
  rw [HX] at KB
  have KZ := Lib.hid (fun W => encode_any 0 0 0 0 0 0 ⟨#[]⟩ ⟨#[]⟩ ⟨#[]⟩ false false W)
  rw [zero_not] at KZ
  simp only [if_true] at KE
  simp only [if_false, Bool.false_eq_true] at KX KZ
  generalize encStr 2 t p pg key hb sb ha sa u = S1 at *
  clear HX h hG hn hX hO
  go_enter Tryd.func7, Tryd.ntmps7
  go_wp2_with fail
  refine (KG.out _).mono ?_
  rintro x w1 ⟨rfl, hb1⟩
  have c0 : w1.cell? ⟨w.heap.size, 0, none⟩ = some (.int .i64 2) := keep_cell hb1 (new_cell rfl rfl)
  have c1 : w1.cell? ⟨w.heap.size, 1, none⟩ = some (.int .i64 g) := keep_cell hb1 (new_cell rfl rfl)
  have c2 : w1.cell? ⟨w.heap.size, 2, none⟩ = some (.int .i64 t) := keep_cell hb1 (new_cell rfl rfl)
  have c3 : w1.cell? ⟨w.heap.size, 3, none⟩ = some (.int .i64 p) := keep_cell hb1 (new_cell rfl rfl)
  have c4 : w1.cell? ⟨w.heap.size, 4, none⟩ = some (.int .i64 pg) := keep_cell hb1 (new_cell rfl rfl)
  have c5 : w1.cell? ⟨w.heap.size, 5, none⟩ = some (.string key) := keep_cell hb1 (new_cell rfl rfl)
  have c6 : w1.cell? ⟨w.heap.size, 6, none⟩ = some (.bool hb) := keep_cell hb1 (new_cell rfl rfl)
  have c7 : w1.cell? ⟨w.heap.size, 7, none⟩ = some (.string sb) := keep_cell hb1 (new_cell rfl rfl)
  have c8 : w1.cell? ⟨w.heap.size, 8, none⟩ = some (.bool ha) := keep_cell hb1 (new_cell rfl rfl)
  have c9 : w1.cell? ⟨w.heap.size, 9, none⟩ = some (.string sa) := keep_cell hb1 (new_cell rfl rfl)
  have c10 : w1.cell? ⟨w.heap.size, 10, none⟩ = some (.int .i64 u) := keep_cell hb1 (new_cell rfl rfl)
  have hw1 : Below w.heap.size w w1 := bw_call hb1 (bw_alloc (Below.refl _ _))
  clear hb1 KG
  go_wp2_with fail
  refine (KE.out _).mono ?_
  rintro x w2 ⟨rfl, hb2⟩
  have d0 := keep_cell hb2 c0
  have d1 := keep_cell hb2 c1
  have d2 := keep_cell hb2 c2
  have d3 := keep_cell hb2 c3
  have d4 := keep_cell hb2 c4
  have d5 := keep_cell hb2 c5
  have d6 := keep_cell hb2 c6
  have d7 := keep_cell hb2 c7
  have d8 := keep_cell hb2 c8
  have d9 := keep_cell hb2 c9
  have d10 := keep_cell hb2 c10
  have d0o := fun o => keep_alloc (o := o) d0
  have hw2 : Below w.heap.size w w2 := bw_call hb2 hw1
  clear hb2 hw1 KE c0 c1 c2 c3 c4 c5 c6 c7 c8 c9 c10
  go_wp2_with fail
  refine (KX.out _).mono ?_
  rintro x w3 ⟨rfl, hb3⟩
  have e0 := keep_cell hb3 (keep_alloc d0)
  have e1 := keep_cell hb3 (keep_alloc d1)
  have e2 := keep_cell hb3 (keep_alloc d2)
  have e3 := keep_cell hb3 (keep_alloc d3)
  have e4 := keep_cell hb3 (keep_alloc d4)
  have e5 := keep_cell hb3 (keep_alloc d5)
  have e6 := keep_cell hb3 (keep_alloc d6)
  have e7 := keep_cell hb3 (keep_alloc d7)
  have e8 := keep_cell hb3 (keep_alloc d8)
  have e9 := keep_cell hb3 (keep_alloc d9)
  have e10 := keep_cell hb3 (keep_alloc d10)
  have hw3 : Below w.heap.size w w3 := bw_call hb3 (bw_alloc hw2)
  clear hb3 hw2 KX d0o d0 d1 d2 d3 d4 d5 d6 d7 d8 d9 d10
  go_wp2_with fail
  refine (KB.out _).mono ?_
  rintro x w4 ⟨rfl, hb4⟩
  have f0 := fun o => keep_alloc (o := o) (keep_cell hb4 e0)
  have hw4 : Below w.heap.size w w4 := bw_call hb4 hw3
  clear hb4 hw3 KB e0 e1 e2 e3 e4 e5 e6 e7 e8 e9 e10
  go_wp2_with fail
  refine (KZ.out _).mono ?_
  rintro x w5 ⟨rfl, hb5⟩
  have g0 := keep_cell hb5 (f0 _)
  have hw5 : Below w.heap.size w w5 := bw_call hb5 (bw_alloc hw4)
  clear hb5 hw4 KZ f0
  go_wp2_with fail
  refine (KA.out _ hw5).mono ?_
  rintro x w6 ⟨rfl, hb6⟩
  go_wp2
  go_ret
  exact ⟨rfl, bw_call hb6 hw5⟩

set_option maxHeartbeats 4000000 in
theorem sizes_2_tft (g t p pg u txn prev gsn : Int) (key sb sa : ByteArray) (hb ha : Bool) (w : World) (hn : NameAt w) (hG : rcGreat key sb sa = false) (h : rcOk 2 g t p pg key hb sb ha sa u = true) (hX : rcOk 2 gsn txn prev pg key hb sb ha sa u = false) (hO : rcOk 3 gsn t prev pg key ha sa hb sb g = true) :
    Calls Tryd.prog 7 #[.agg #[.int .i64 2, .int .i64 g, .int .i64 t, .int .i64 p, .int .i64 pg, .string key, .bool hb, .string sb, .bool ha, .string sa, .int .i64 u], .int .i64 txn, .int .i64 prev, .int .i64 gsn] w fun e w' => e = .returned (.bool true) ∧ Below w.heap.size w w' := by
  have KA := Lib.hid (fun W (hW : Below w.heap.size w W) => awake_rc W (hn.below hW))
  have KG := Lib.hid (fun W => great_rc 2 g t p pg u key sb sa hb ha W)
  rw [hG] at KG
  have KE := Lib.hid (fun W => encode_any 2 g t p pg u key sb sa hb ha W)
  rw [h] at KE
  have KX := Lib.hid (fun W => encode_any 2 gsn txn prev pg u key sb sa hb ha W)
  rw [hX] at KX
  have HX : rcBack 2 g t p pg key hb sb ha sa u gsn prev = .agg #[.int .i64 3, .int .i64 gsn, .int .i64 t, .int .i64 prev, .int .i64 pg, .string key, .bool ha, .string sa, .bool hb, .string sb, .int .i64 g] := by
    unfold rcBack; rw [h, hO]; rfl
  have KB := Lib.hid (fun W => back_any 2 g t p pg u gsn prev key sb sa hb ha W)
  rw [HX] at KB
  have KZ := Lib.hid (fun W => encode_any 3 gsn t prev pg g key sa sb ha hb W)
  rw [hO] at KZ
  have hz := back_size h hO
  have hwr : IntKind.i64.wrap (((encStr 2 t p pg key hb sb ha sa u).size : Int) + 8) = ((encStr 2 t p pg key hb sb ha sa u).size : Int) + 8 := by
    have := (encStr_size h).2
    rw [IntKind.wrap_i64]; omega
  simp only [if_true] at KE KZ
  simp only [if_false, Bool.false_eq_true] at KX
  generalize encStr 2 t p pg key hb sb ha sa u = S1 at *
  generalize encStr 3 t prev pg key ha sa hb sb g = S3 at *
  clear HX h hG hn hX hO
  go_enter Tryd.func7, Tryd.ntmps7
  go_wp2_with fail
  refine (KG.out _).mono ?_
  rintro x w1 ⟨rfl, hb1⟩
  have c0 : w1.cell? ⟨w.heap.size, 0, none⟩ = some (.int .i64 2) := keep_cell hb1 (new_cell rfl rfl)
  have c1 : w1.cell? ⟨w.heap.size, 1, none⟩ = some (.int .i64 g) := keep_cell hb1 (new_cell rfl rfl)
  have c2 : w1.cell? ⟨w.heap.size, 2, none⟩ = some (.int .i64 t) := keep_cell hb1 (new_cell rfl rfl)
  have c3 : w1.cell? ⟨w.heap.size, 3, none⟩ = some (.int .i64 p) := keep_cell hb1 (new_cell rfl rfl)
  have c4 : w1.cell? ⟨w.heap.size, 4, none⟩ = some (.int .i64 pg) := keep_cell hb1 (new_cell rfl rfl)
  have c5 : w1.cell? ⟨w.heap.size, 5, none⟩ = some (.string key) := keep_cell hb1 (new_cell rfl rfl)
  have c6 : w1.cell? ⟨w.heap.size, 6, none⟩ = some (.bool hb) := keep_cell hb1 (new_cell rfl rfl)
  have c7 : w1.cell? ⟨w.heap.size, 7, none⟩ = some (.string sb) := keep_cell hb1 (new_cell rfl rfl)
  have c8 : w1.cell? ⟨w.heap.size, 8, none⟩ = some (.bool ha) := keep_cell hb1 (new_cell rfl rfl)
  have c9 : w1.cell? ⟨w.heap.size, 9, none⟩ = some (.string sa) := keep_cell hb1 (new_cell rfl rfl)
  have c10 : w1.cell? ⟨w.heap.size, 10, none⟩ = some (.int .i64 u) := keep_cell hb1 (new_cell rfl rfl)
  have hw1 : Below w.heap.size w w1 := bw_call hb1 (bw_alloc (Below.refl _ _))
  clear hb1 KG
  go_wp2_with fail
  refine (KE.out _).mono ?_
  rintro x w2 ⟨rfl, hb2⟩
  have d0 := keep_cell hb2 c0
  have d1 := keep_cell hb2 c1
  have d2 := keep_cell hb2 c2
  have d3 := keep_cell hb2 c3
  have d4 := keep_cell hb2 c4
  have d5 := keep_cell hb2 c5
  have d6 := keep_cell hb2 c6
  have d7 := keep_cell hb2 c7
  have d8 := keep_cell hb2 c8
  have d9 := keep_cell hb2 c9
  have d10 := keep_cell hb2 c10
  have d0o := fun o => keep_alloc (o := o) d0
  have hw2 : Below w.heap.size w w2 := bw_call hb2 hw1
  clear hb2 hw1 KE c0 c1 c2 c3 c4 c5 c6 c7 c8 c9 c10
  go_wp2_with fail
  refine (KX.out _).mono ?_
  rintro x w3 ⟨rfl, hb3⟩
  have e0 := keep_cell hb3 (keep_alloc d0)
  have e1 := keep_cell hb3 (keep_alloc d1)
  have e2 := keep_cell hb3 (keep_alloc d2)
  have e3 := keep_cell hb3 (keep_alloc d3)
  have e4 := keep_cell hb3 (keep_alloc d4)
  have e5 := keep_cell hb3 (keep_alloc d5)
  have e6 := keep_cell hb3 (keep_alloc d6)
  have e7 := keep_cell hb3 (keep_alloc d7)
  have e8 := keep_cell hb3 (keep_alloc d8)
  have e9 := keep_cell hb3 (keep_alloc d9)
  have e10 := keep_cell hb3 (keep_alloc d10)
  have hw3 : Below w.heap.size w w3 := bw_call hb3 (bw_alloc hw2)
  clear hb3 hw2 KX d0o d0 d1 d2 d3 d4 d5 d6 d7 d8 d9 d10
  go_wp2_with fail
  refine (KB.out _).mono ?_
  rintro x w4 ⟨rfl, hb4⟩
  have f0 := fun o => keep_alloc (o := o) (keep_cell hb4 e0)
  have hw4 : Below w.heap.size w w4 := bw_call hb4 hw3
  clear hb4 hw3 KB e0 e1 e2 e3 e4 e5 e6 e7 e8 e9 e10
  go_wp2_with fail
  refine (KZ.out _).mono ?_
  rintro x w5 ⟨rfl, hb5⟩
  have g0 := keep_cell hb5 (f0 _)
  have hw5 : Below w.heap.size w w5 := bw_call hb5 (bw_alloc hw4)
  clear hb5 hw4 KZ f0
  go_wp2_with fail
  refine (KA.out _ hw5).mono ?_
  rintro x w6 ⟨rfl, hb6⟩
  go_wp2
  go_ret
  exact ⟨rfl, bw_call hb6 hw5⟩

set_option maxHeartbeats 4000000 in
theorem sizes_2_ttf (g t p pg u txn prev gsn : Int) (key sb sa : ByteArray) (hb ha : Bool) (w : World) (hn : NameAt w) (hG : rcGreat key sb sa = false) (h : rcOk 2 g t p pg key hb sb ha sa u = true) (hX : rcOk 2 gsn txn prev pg key hb sb ha sa u = true) (hO : rcOk 3 gsn t prev pg key ha sa hb sb g = false) :
    Calls Tryd.prog 7 #[.agg #[.int .i64 2, .int .i64 g, .int .i64 t, .int .i64 p, .int .i64 pg, .string key, .bool hb, .string sb, .bool ha, .string sa, .int .i64 u], .int .i64 txn, .int .i64 prev, .int .i64 gsn] w fun e w' => e = .returned (.bool true) ∧ Below w.heap.size w w' := by
  have KA := Lib.hid (fun W (hW : Below w.heap.size w W) => awake_rc W (hn.below hW))
  have KG := Lib.hid (fun W => great_rc 2 g t p pg u key sb sa hb ha W)
  rw [hG] at KG
  have KE := Lib.hid (fun W => encode_any 2 g t p pg u key sb sa hb ha W)
  rw [h] at KE
  have KX := Lib.hid (fun W => encode_any 2 gsn txn prev pg u key sb sa hb ha W)
  rw [hX] at KX
  have HX : rcBack 2 g t p pg key hb sb ha sa u gsn prev = .agg #[.int .i64 0, .int .i64 0, .int .i64 0, .int .i64 0, .int .i64 0, .string ⟨#[]⟩, .bool false, .string ⟨#[]⟩, .bool false, .string ⟨#[]⟩, .int .i64 0] := by
    unfold rcBack; rw [h, hO]; rfl
  have KB := Lib.hid (fun W => back_any 2 g t p pg u gsn prev key sb sa hb ha W)
  rw [HX] at KB
  have KZ := Lib.hid (fun W => encode_any 0 0 0 0 0 0 ⟨#[]⟩ ⟨#[]⟩ ⟨#[]⟩ false false W)
  rw [zero_not] at KZ
  have hs := same_size h hX
  simp only [if_true] at KE KX
  simp only [if_false, Bool.false_eq_true] at KZ
  generalize encStr 2 t p pg key hb sb ha sa u = S1 at *
  generalize encStr 2 txn prev pg key hb sb ha sa u = S2 at *
  clear HX h hG hn hX hO
  go_enter Tryd.func7, Tryd.ntmps7
  go_wp2_with fail
  refine (KG.out _).mono ?_
  rintro x w1 ⟨rfl, hb1⟩
  have c0 : w1.cell? ⟨w.heap.size, 0, none⟩ = some (.int .i64 2) := keep_cell hb1 (new_cell rfl rfl)
  have c1 : w1.cell? ⟨w.heap.size, 1, none⟩ = some (.int .i64 g) := keep_cell hb1 (new_cell rfl rfl)
  have c2 : w1.cell? ⟨w.heap.size, 2, none⟩ = some (.int .i64 t) := keep_cell hb1 (new_cell rfl rfl)
  have c3 : w1.cell? ⟨w.heap.size, 3, none⟩ = some (.int .i64 p) := keep_cell hb1 (new_cell rfl rfl)
  have c4 : w1.cell? ⟨w.heap.size, 4, none⟩ = some (.int .i64 pg) := keep_cell hb1 (new_cell rfl rfl)
  have c5 : w1.cell? ⟨w.heap.size, 5, none⟩ = some (.string key) := keep_cell hb1 (new_cell rfl rfl)
  have c6 : w1.cell? ⟨w.heap.size, 6, none⟩ = some (.bool hb) := keep_cell hb1 (new_cell rfl rfl)
  have c7 : w1.cell? ⟨w.heap.size, 7, none⟩ = some (.string sb) := keep_cell hb1 (new_cell rfl rfl)
  have c8 : w1.cell? ⟨w.heap.size, 8, none⟩ = some (.bool ha) := keep_cell hb1 (new_cell rfl rfl)
  have c9 : w1.cell? ⟨w.heap.size, 9, none⟩ = some (.string sa) := keep_cell hb1 (new_cell rfl rfl)
  have c10 : w1.cell? ⟨w.heap.size, 10, none⟩ = some (.int .i64 u) := keep_cell hb1 (new_cell rfl rfl)
  have hw1 : Below w.heap.size w w1 := bw_call hb1 (bw_alloc (Below.refl _ _))
  clear hb1 KG
  go_wp2_with fail
  refine (KE.out _).mono ?_
  rintro x w2 ⟨rfl, hb2⟩
  have d0 := keep_cell hb2 c0
  have d1 := keep_cell hb2 c1
  have d2 := keep_cell hb2 c2
  have d3 := keep_cell hb2 c3
  have d4 := keep_cell hb2 c4
  have d5 := keep_cell hb2 c5
  have d6 := keep_cell hb2 c6
  have d7 := keep_cell hb2 c7
  have d8 := keep_cell hb2 c8
  have d9 := keep_cell hb2 c9
  have d10 := keep_cell hb2 c10
  have d0o := fun o => keep_alloc (o := o) d0
  have hw2 : Below w.heap.size w w2 := bw_call hb2 hw1
  clear hb2 hw1 KE c0 c1 c2 c3 c4 c5 c6 c7 c8 c9 c10
  go_wp2_with fail
  refine (KX.out _).mono ?_
  rintro x w3 ⟨rfl, hb3⟩
  have e0 := keep_cell hb3 (keep_alloc d0)
  have e1 := keep_cell hb3 (keep_alloc d1)
  have e2 := keep_cell hb3 (keep_alloc d2)
  have e3 := keep_cell hb3 (keep_alloc d3)
  have e4 := keep_cell hb3 (keep_alloc d4)
  have e5 := keep_cell hb3 (keep_alloc d5)
  have e6 := keep_cell hb3 (keep_alloc d6)
  have e7 := keep_cell hb3 (keep_alloc d7)
  have e8 := keep_cell hb3 (keep_alloc d8)
  have e9 := keep_cell hb3 (keep_alloc d9)
  have e10 := keep_cell hb3 (keep_alloc d10)
  have hw3 : Below w.heap.size w w3 := bw_call hb3 (bw_alloc hw2)
  clear hb3 hw2 KX d0o d0 d1 d2 d3 d4 d5 d6 d7 d8 d9 d10
  go_wp2_with fail
  refine (KB.out _).mono ?_
  rintro x w4 ⟨rfl, hb4⟩
  have f0 := fun o => keep_alloc (o := o) (keep_cell hb4 e0)
  have hw4 : Below w.heap.size w w4 := bw_call hb4 hw3
  clear hb4 hw3 KB e0 e1 e2 e3 e4 e5 e6 e7 e8 e9 e10
  go_wp2_with fail
  refine (KZ.out _).mono ?_
  rintro x w5 ⟨rfl, hb5⟩
  have g0 := keep_cell hb5 (f0 _)
  have hw5 : Below w.heap.size w w5 := bw_call hb5 (bw_alloc hw4)
  clear hb5 hw4 KZ f0
  go_wp2_with fail
  refine (KA.out _ hw5).mono ?_
  rintro x w6 ⟨rfl, hb6⟩
  go_wp2
  go_ret
  exact ⟨rfl, bw_call hb6 hw5⟩

set_option maxHeartbeats 4000000 in
theorem sizes_2_ttt (g t p pg u txn prev gsn : Int) (key sb sa : ByteArray) (hb ha : Bool) (w : World) (hn : NameAt w) (hG : rcGreat key sb sa = false) (h : rcOk 2 g t p pg key hb sb ha sa u = true) (hX : rcOk 2 gsn txn prev pg key hb sb ha sa u = true) (hO : rcOk 3 gsn t prev pg key ha sa hb sb g = true) :
    Calls Tryd.prog 7 #[.agg #[.int .i64 2, .int .i64 g, .int .i64 t, .int .i64 p, .int .i64 pg, .string key, .bool hb, .string sb, .bool ha, .string sa, .int .i64 u], .int .i64 txn, .int .i64 prev, .int .i64 gsn] w fun e w' => e = .returned (.bool true) ∧ Below w.heap.size w w' := by
  have KA := Lib.hid (fun W (hW : Below w.heap.size w W) => awake_rc W (hn.below hW))
  have KG := Lib.hid (fun W => great_rc 2 g t p pg u key sb sa hb ha W)
  rw [hG] at KG
  have KE := Lib.hid (fun W => encode_any 2 g t p pg u key sb sa hb ha W)
  rw [h] at KE
  have KX := Lib.hid (fun W => encode_any 2 gsn txn prev pg u key sb sa hb ha W)
  rw [hX] at KX
  have HX : rcBack 2 g t p pg key hb sb ha sa u gsn prev = .agg #[.int .i64 3, .int .i64 gsn, .int .i64 t, .int .i64 prev, .int .i64 pg, .string key, .bool ha, .string sa, .bool hb, .string sb, .int .i64 g] := by
    unfold rcBack; rw [h, hO]; rfl
  have KB := Lib.hid (fun W => back_any 2 g t p pg u gsn prev key sb sa hb ha W)
  rw [HX] at KB
  have KZ := Lib.hid (fun W => encode_any 3 gsn t prev pg g key sa sb ha hb W)
  rw [hO] at KZ
  have hs := same_size h hX
  have hz := back_size h hO
  have hwr : IntKind.i64.wrap (((encStr 2 t p pg key hb sb ha sa u).size : Int) + 8) = ((encStr 2 t p pg key hb sb ha sa u).size : Int) + 8 := by
    have := (encStr_size h).2
    rw [IntKind.wrap_i64]; omega
  simp only [if_true] at KE KX KZ
  generalize encStr 2 t p pg key hb sb ha sa u = S1 at *
  generalize encStr 2 txn prev pg key hb sb ha sa u = S2 at *
  generalize encStr 3 t prev pg key ha sa hb sb g = S3 at *
  clear HX h hG hn hX hO
  go_enter Tryd.func7, Tryd.ntmps7
  go_wp2_with fail
  refine (KG.out _).mono ?_
  rintro x w1 ⟨rfl, hb1⟩
  have c0 : w1.cell? ⟨w.heap.size, 0, none⟩ = some (.int .i64 2) := keep_cell hb1 (new_cell rfl rfl)
  have c1 : w1.cell? ⟨w.heap.size, 1, none⟩ = some (.int .i64 g) := keep_cell hb1 (new_cell rfl rfl)
  have c2 : w1.cell? ⟨w.heap.size, 2, none⟩ = some (.int .i64 t) := keep_cell hb1 (new_cell rfl rfl)
  have c3 : w1.cell? ⟨w.heap.size, 3, none⟩ = some (.int .i64 p) := keep_cell hb1 (new_cell rfl rfl)
  have c4 : w1.cell? ⟨w.heap.size, 4, none⟩ = some (.int .i64 pg) := keep_cell hb1 (new_cell rfl rfl)
  have c5 : w1.cell? ⟨w.heap.size, 5, none⟩ = some (.string key) := keep_cell hb1 (new_cell rfl rfl)
  have c6 : w1.cell? ⟨w.heap.size, 6, none⟩ = some (.bool hb) := keep_cell hb1 (new_cell rfl rfl)
  have c7 : w1.cell? ⟨w.heap.size, 7, none⟩ = some (.string sb) := keep_cell hb1 (new_cell rfl rfl)
  have c8 : w1.cell? ⟨w.heap.size, 8, none⟩ = some (.bool ha) := keep_cell hb1 (new_cell rfl rfl)
  have c9 : w1.cell? ⟨w.heap.size, 9, none⟩ = some (.string sa) := keep_cell hb1 (new_cell rfl rfl)
  have c10 : w1.cell? ⟨w.heap.size, 10, none⟩ = some (.int .i64 u) := keep_cell hb1 (new_cell rfl rfl)
  have hw1 : Below w.heap.size w w1 := bw_call hb1 (bw_alloc (Below.refl _ _))
  clear hb1 KG
  go_wp2_with fail
  refine (KE.out _).mono ?_
  rintro x w2 ⟨rfl, hb2⟩
  have d0 := keep_cell hb2 c0
  have d1 := keep_cell hb2 c1
  have d2 := keep_cell hb2 c2
  have d3 := keep_cell hb2 c3
  have d4 := keep_cell hb2 c4
  have d5 := keep_cell hb2 c5
  have d6 := keep_cell hb2 c6
  have d7 := keep_cell hb2 c7
  have d8 := keep_cell hb2 c8
  have d9 := keep_cell hb2 c9
  have d10 := keep_cell hb2 c10
  have d0o := fun o => keep_alloc (o := o) d0
  have hw2 : Below w.heap.size w w2 := bw_call hb2 hw1
  clear hb2 hw1 KE c0 c1 c2 c3 c4 c5 c6 c7 c8 c9 c10
  go_wp2_with fail
  refine (KX.out _).mono ?_
  rintro x w3 ⟨rfl, hb3⟩
  have e0 := keep_cell hb3 (keep_alloc d0)
  have e1 := keep_cell hb3 (keep_alloc d1)
  have e2 := keep_cell hb3 (keep_alloc d2)
  have e3 := keep_cell hb3 (keep_alloc d3)
  have e4 := keep_cell hb3 (keep_alloc d4)
  have e5 := keep_cell hb3 (keep_alloc d5)
  have e6 := keep_cell hb3 (keep_alloc d6)
  have e7 := keep_cell hb3 (keep_alloc d7)
  have e8 := keep_cell hb3 (keep_alloc d8)
  have e9 := keep_cell hb3 (keep_alloc d9)
  have e10 := keep_cell hb3 (keep_alloc d10)
  have hw3 : Below w.heap.size w w3 := bw_call hb3 (bw_alloc hw2)
  clear hb3 hw2 KX d0o d0 d1 d2 d3 d4 d5 d6 d7 d8 d9 d10
  go_wp2_with fail
  refine (KB.out _).mono ?_
  rintro x w4 ⟨rfl, hb4⟩
  have f0 := fun o => keep_alloc (o := o) (keep_cell hb4 e0)
  have hw4 : Below w.heap.size w w4 := bw_call hb4 hw3
  clear hb4 hw3 KB e0 e1 e2 e3 e4 e5 e6 e7 e8 e9 e10
  go_wp2_with fail
  refine (KZ.out _).mono ?_
  rintro x w5 ⟨rfl, hb5⟩
  have g0 := keep_cell hb5 (f0 _)
  have hw5 : Below w.heap.size w w5 := bw_call hb5 (bw_alloc hw4)
  clear hb5 hw4 KZ f0
  go_wp2_with fail
  refine (KA.out _ hw5).mono ?_
  rintro x w6 ⟨rfl, hb6⟩
  go_wp2
  go_ret
  exact ⟨rfl, bw_call hb6 hw5⟩
end Go.Proofs.YtbljeagjlmdlhaaDoor
