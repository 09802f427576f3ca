/-
  THE WALK OF quadrigalaw04.RecordBytes: it returns true, and writes nothing that was there.
-/
import Derived.Test.YtlggbbaigcnpjaaDoorRcRefEncAny
import Derived.Test.YtlggbbaigcnpjaaDoorRcRefRight
import Derived.Test.YtlggbbaigcnpjaaDoorRcSizes
import Derived.Test.YtlggbbaigcnpjaaDoorRcDecLaw
import Derived.Test.YtlggbbaigcnpjaaDoorRcRdAny
namespace Go.Proofs.YtlggbbaigcnpjaaDoor
open Go.RowKit

set_option maxRecDepth 100000 in
set_option maxHeartbeats 4000000 in
theorem bytes_ff (k g t p pg u gsn : Int) (key sb sa b : ByteArray) (hb ha : Bool) (w : World) (hn : NameAt w) (hG : rcGreat key sb sa = false) (hl : b.size ≤ 1000) (h : rcOk k g t p pg key hb sb ha sa u = false)
    (KD : Hid (∀ W, Calls Tryd.prog 8 #[.int .i64 gsn, .string b] W fun e w' => e = .returned (.tuple #[.agg #[.int .i64 0, .int .i64 0, .int .i64 0, .int .i64 0, .int .i64 0, .string ⟨#[]⟩, .bool false, .string ⟨#[]⟩, .bool false, .string ⟨#[]⟩, .int .i64 0], .int .i64 2]) ∧ Below W.heap.size W w'))
    (KF : Hid (∀ W, Calls Tryd.prog 9 #[.int .i64 gsn, .string b] W fun e w' => e = .returned (.tuple #[.agg #[.int .i64 0, .int .i64 0, .int .i64 0, .int .i64 0, .int .i64 0, .string ⟨#[]⟩, .bool false, .string ⟨#[]⟩, .bool false, .string ⟨#[]⟩, .int .i64 0], .bool false]) ∧ Below W.heap.size W w'))
    : Calls Tryd.prog 3 #[.agg #[.int .i64 k, .int .i64 g, .int .i64 t, .int .i64 p, .int .i64 pg, .string key, .bool hb, .string sb, .bool ha, .string sa, .int .i64 u], .int .i64 gsn, .string b] w fun e w' => e = .returned (.bool true) ∧ Below w.heap.size w w' := by
  have KA := Lib.hid (fun W (hW : Below w.heap.size w W) => awake_rc W (hn.below hW))
  have KG := Lib.hid (fun W => great_rc k g t p pg u key sb sa hb ha W)
  rw [hG] at KG
  have KE := Lib.hid (fun W => encode_no k g t p pg u key sb sa hb ha W h)
  have K1 := Lib.hid (fun W => refRight_any k g t p pg u key sb sa hb ha W)
  rw [h] at K1
  have hl : (b.size : Int) ≤ 1000 := by omega
  clear h hG hn
  go_enter Tryd.func3, Tryd.ntmps3
  go_wp2_with fail
  refine (KG.out _).mono ?_
  rintro x w1 ⟨rfl, hb1⟩
  have c0 : w1.cell? ⟨w.heap.size, 0, none⟩ = some (.int .i64 k) := keep_cell hb1 (new_cell rfl rfl)
  have c1 : w1.cell? ⟨w.heap.size, 1, none⟩ = some (.int .i64 g) := keep_cell hb1 (new_cell rfl rfl)
  have c2 : w1.cell? ⟨w.heap.size, 2, none⟩ = some (.int .i64 t) := keep_cell hb1 (new_cell rfl rfl)
  have c3 : w1.cell? ⟨w.heap.size, 3, none⟩ = some (.int .i64 p) := keep_cell hb1 (new_cell rfl rfl)
  have c4 : w1.cell? ⟨w.heap.size, 4, none⟩ = some (.int .i64 pg) := keep_cell hb1 (new_cell rfl rfl)
  have c5 : w1.cell? ⟨w.heap.size, 5, none⟩ = some (.string key) := keep_cell hb1 (new_cell rfl rfl)
  have c6 : w1.cell? ⟨w.heap.size, 6, none⟩ = some (.bool hb) := keep_cell hb1 (new_cell rfl rfl)
  have c7 : w1.cell? ⟨w.heap.size, 7, none⟩ = some (.string sb) := keep_cell hb1 (new_cell rfl rfl)
  have c8 : w1.cell? ⟨w.heap.size, 8, none⟩ = some (.bool ha) := keep_cell hb1 (new_cell rfl rfl)
  have c9 : w1.cell? ⟨w.heap.size, 9, none⟩ = some (.string sa) := keep_cell hb1 (new_cell rfl rfl)
  have c10 : w1.cell? ⟨w.heap.size, 10, none⟩ = some (.int .i64 u) := keep_cell hb1 (new_cell rfl rfl)
  have hw1 : Below w.heap.size w w1 := bw_call hb1 (bw_alloc (Below.refl _ _))
  clear hb1 KG
  go_wp2_with fail
  refine (KE.out _).mono ?_
  rintro x w2 ⟨rfl, hb2⟩
  replace c0 := keep_cell hb2 c0
  replace c1 := keep_cell hb2 c1
  replace c2 := keep_cell hb2 c2
  replace c3 := keep_cell hb2 c3
  replace c4 := keep_cell hb2 c4
  replace c5 := keep_cell hb2 c5
  replace c6 := keep_cell hb2 c6
  replace c7 := keep_cell hb2 c7
  replace c8 := keep_cell hb2 c8
  replace c9 := keep_cell hb2 c9
  replace c10 := keep_cell hb2 c10
  have hw2 : Below w.heap.size w w2 := bw_call hb2 hw1
  clear hb2 hw1 KE
  go_wp2_with fail
  refine (KD.out _).mono ?_
  rintro x w3 ⟨rfl, hb3⟩
  replace c0 := keep_cell hb3 c0
  replace c1 := keep_cell hb3 c1
  replace c2 := keep_cell hb3 c2
  replace c3 := keep_cell hb3 c3
  replace c4 := keep_cell hb3 c4
  replace c5 := keep_cell hb3 c5
  replace c6 := keep_cell hb3 c6
  replace c7 := keep_cell hb3 c7
  replace c8 := keep_cell hb3 c8
  replace c9 := keep_cell hb3 c9
  replace c10 := keep_cell hb3 c10
  have hw3 : Below w.heap.size w w3 := bw_call hb3 hw2
  clear hb3 hw2 KD
  go_wp2_with fail
  refine (KF.out _).mono ?_
  rintro x w4 ⟨rfl, hb4⟩
  have x0 : w4.cell? ⟨w3.heap.size, 0, none⟩ = some (.int .i64 0) := keep_cell hb4 (new_cell rfl rfl)
  have x1 : w4.cell? ⟨w3.heap.size, 1, none⟩ = some (.int .i64 0) := keep_cell hb4 (new_cell rfl rfl)
  have x2 : w4.cell? ⟨w3.heap.size, 2, none⟩ = some (.int .i64 0) := keep_cell hb4 (new_cell rfl rfl)
  have x3 : w4.cell? ⟨w3.heap.size, 3, none⟩ = some (.int .i64 0) := keep_cell hb4 (new_cell rfl rfl)
  have x4 : w4.cell? ⟨w3.heap.size, 4, none⟩ = some (.int .i64 0) := keep_cell hb4 (new_cell rfl rfl)
  have x5 : w4.cell? ⟨w3.heap.size, 5, none⟩ = some (.string ⟨#[]⟩) := keep_cell hb4 (new_cell rfl rfl)
  have x6 : w4.cell? ⟨w3.heap.size, 6, none⟩ = some (.bool false) := keep_cell hb4 (new_cell rfl rfl)
  have x7 : w4.cell? ⟨w3.heap.size, 7, none⟩ = some (.string ⟨#[]⟩) := keep_cell hb4 (new_cell rfl rfl)
  have x8 : w4.cell? ⟨w3.heap.size, 8, none⟩ = some (.bool false) := keep_cell hb4 (new_cell rfl rfl)
  have x9 : w4.cell? ⟨w3.heap.size, 9, none⟩ = some (.string ⟨#[]⟩) := keep_cell hb4 (new_cell rfl rfl)
  have x10 : w4.cell? ⟨w3.heap.size, 10, none⟩ = some (.int .i64 0) := keep_cell hb4 (new_cell rfl rfl)
  replace c0 := keep_cell hb4 (keep_alloc c0)
  replace c1 := keep_cell hb4 (keep_alloc c1)
  replace c2 := keep_cell hb4 (keep_alloc c2)
  replace c3 := keep_cell hb4 (keep_alloc c3)
  replace c4 := keep_cell hb4 (keep_alloc c4)
  replace c5 := keep_cell hb4 (keep_alloc c5)
  replace c6 := keep_cell hb4 (keep_alloc c6)
  replace c7 := keep_cell hb4 (keep_alloc c7)
  replace c8 := keep_cell hb4 (keep_alloc c8)
  replace c9 := keep_cell hb4 (keep_alloc c9)
  replace c10 := keep_cell hb4 (keep_alloc c10)
  have y0 := fun o => keep_alloc (o := o) x0
  have y1 := fun o => keep_alloc (o := o) x1
  have y2 := fun o => keep_alloc (o := o) x2
  have y3 := fun o => keep_alloc (o := o) x3
  have y4 := fun o => keep_alloc (o := o) x4
  have y5 := fun o => keep_alloc (o := o) x5
  have y6 := fun o => keep_alloc (o := o) x6
  have y7 := fun o => keep_alloc (o := o) x7
  have y8 := fun o => keep_alloc (o := o) x8
  have y9 := fun o => keep_alloc (o := o) x9
  have y10 := fun o => keep_alloc (o := o) x10
  have d0 := fun o => keep_alloc (o := o) c0
  have d1 := fun o => keep_alloc (o := o) c1
  have d2 := fun o => keep_alloc (o := o) c2
  have d3 := fun o => keep_alloc (o := o) c3
  have d4 := fun o => keep_alloc (o := o) c4
  have d5 := fun o => keep_alloc (o := o) c5
  have d6 := fun o => keep_alloc (o := o) c6
  have d7 := fun o => keep_alloc (o := o) c7
  have d8 := fun o => keep_alloc (o := o) c8
  have d9 := fun o => keep_alloc (o := o) c9
  have d10 := fun o => keep_alloc (o := o) c10
  have hw4 : Below w.heap.size w w4 := bw_call hb4 (bw_alloc hw3)
  clear hb4 hw3 KF
  go_wp2_with fail
  refine (K1.out _).mono ?_
  rintro x w5 ⟨rfl, hb5⟩
  have hw5 : Below w.heap.size w w5 := bw_call hb5 (bw_alloc hw4)
  clear hb5 K1 c0 x0 y0 d0 c1 x1 y1 d1 c2 x2 y2 d2 c3 x3 y3 d3 c4 x4 y4 d4 c5 x5 y5 d5 c6 x6 y6 d6 c7 x7 y7 d7 c8 x8 y8 d8 c9 x9 y9 d9 c10 x10 y10 d10
  go_wp2_with fail
  refine (KA.out _ hw5).mono ?_
  rintro x w6 ⟨rfl, hb6⟩
  go_wp2
  go_ret
  exact ⟨rfl, bw_call hb6 hw5⟩

set_option maxRecDepth 100000 in
set_option maxHeartbeats 4000000 in
theorem bytes_ft (k g t p pg u gsn : Int) (key sb sa b E : ByteArray) (hb ha : Bool) (w : World) (hn : NameAt w) (hG : rcGreat key sb sa = false) (hl : b.size ≤ 1000) (h : rcOk k g t p pg key hb sb ha sa u = true)
    (KD : Hid (∀ W, Calls Tryd.prog 8 #[.int .i64 gsn, .string b] W fun e w' => e = .returned (.tuple #[.agg #[.int .i64 0, .int .i64 0, .int .i64 0, .int .i64 0, .int .i64 0, .string ⟨#[]⟩, .bool false, .string ⟨#[]⟩, .bool false, .string ⟨#[]⟩, .int .i64 0], .int .i64 2]) ∧ Below W.heap.size W w'))
    (KF : Hid (∀ W, Calls Tryd.prog 9 #[.int .i64 gsn, .string b] W fun e w' => e = .returned (.tuple #[.agg #[.int .i64 0, .int .i64 0, .int .i64 0, .int .i64 0, .int .i64 0, .string ⟨#[]⟩, .bool false, .string ⟨#[]⟩, .bool false, .string ⟨#[]⟩, .int .i64 0], .bool false]) ∧ Below W.heap.size W w'))
    (hE : encStr k t p pg key hb sb ha sa u = E)
    (KZ : Hid (∀ W, Calls Tryd.prog 8 #[.int .i64 g, .string E] W fun e w' => e = .returned (.tuple #[.agg #[.int .i64 k, .int .i64 g, .int .i64 t, .int .i64 p, .int .i64 pg, .string key, .bool hb, .string sb, .bool ha, .string sa, .int .i64 u], .int .i64 0]) ∧ Below W.heap.size W w'))
    : Calls Tryd.prog 3 #[.agg #[.int .i64 k, .int .i64 g, .int .i64 t, .int .i64 p, .int .i64 pg, .string key, .bool hb, .string sb, .bool ha, .string sa, .int .i64 u], .int .i64 gsn, .string b] w fun e w' => e = .returned (.bool true) ∧ Below w.heap.size w w' := by
  have KA := Lib.hid (fun W (hW : Below w.heap.size w W) => awake_rc W (hn.below hW))
  have KG := Lib.hid (fun W => great_rc k g t p pg u key sb sa hb ha W)
  rw [hG] at KG
  have KE := Lib.hid (fun W => encode_yes k g t p pg u key sb sa hb ha W h)
  rw [hE] at KE
  have KX := Lib.hid (fun W => refEncode_any k g t p pg u key sb sa hb ha W h)
  rw [hE] at KX
  have K1 := Lib.hid (fun W => refRight_any k g t p pg u key sb sa hb ha W)
  rw [h] at K1
  have hl : (b.size : Int) ≤ 1000 := by omega
  clear h hG hn hE
  go_enter Tryd.func3, Tryd.ntmps3
  go_wp2_with fail
  refine (KG.out _).mono ?_
  rintro x w1 ⟨rfl, hb1⟩
  have c0 : w1.cell? ⟨w.heap.size, 0, none⟩ = some (.int .i64 k) := keep_cell hb1 (new_cell rfl rfl)
  have c1 : w1.cell? ⟨w.heap.size, 1, none⟩ = some (.int .i64 g) := keep_cell hb1 (new_cell rfl rfl)
  have c2 : w1.cell? ⟨w.heap.size, 2, none⟩ = some (.int .i64 t) := keep_cell hb1 (new_cell rfl rfl)
  have c3 : w1.cell? ⟨w.heap.size, 3, none⟩ = some (.int .i64 p) := keep_cell hb1 (new_cell rfl rfl)
  have c4 : w1.cell? ⟨w.heap.size, 4, none⟩ = some (.int .i64 pg) := keep_cell hb1 (new_cell rfl rfl)
  have c5 : w1.cell? ⟨w.heap.size, 5, none⟩ = some (.string key) := keep_cell hb1 (new_cell rfl rfl)
  have c6 : w1.cell? ⟨w.heap.size, 6, none⟩ = some (.bool hb) := keep_cell hb1 (new_cell rfl rfl)
  have c7 : w1.cell? ⟨w.heap.size, 7, none⟩ = some (.string sb) := keep_cell hb1 (new_cell rfl rfl)
  have c8 : w1.cell? ⟨w.heap.size, 8, none⟩ = some (.bool ha) := keep_cell hb1 (new_cell rfl rfl)
  have c9 : w1.cell? ⟨w.heap.size, 9, none⟩ = some (.string sa) := keep_cell hb1 (new_cell rfl rfl)
  have c10 : w1.cell? ⟨w.heap.size, 10, none⟩ = some (.int .i64 u) := keep_cell hb1 (new_cell rfl rfl)
  have hw1 : Below w.heap.size w w1 := bw_call hb1 (bw_alloc (Below.refl _ _))
  clear hb1 KG
  go_wp2_with fail
  refine (KE.out _).mono ?_
  rintro x w2 ⟨rfl, hb2⟩
  replace c0 := keep_cell hb2 c0
  replace c1 := keep_cell hb2 c1
  replace c2 := keep_cell hb2 c2
  replace c3 := keep_cell hb2 c3
  replace c4 := keep_cell hb2 c4
  replace c5 := keep_cell hb2 c5
  replace c6 := keep_cell hb2 c6
  replace c7 := keep_cell hb2 c7
  replace c8 := keep_cell hb2 c8
  replace c9 := keep_cell hb2 c9
  replace c10 := keep_cell hb2 c10
  have hw2 : Below w.heap.size w w2 := bw_call hb2 hw1
  clear hb2 hw1 KE
  go_wp2_with fail
  refine (KD.out _).mono ?_
  rintro x w3 ⟨rfl, hb3⟩
  replace c0 := keep_cell hb3 c0
  replace c1 := keep_cell hb3 c1
  replace c2 := keep_cell hb3 c2
  replace c3 := keep_cell hb3 c3
  replace c4 := keep_cell hb3 c4
  replace c5 := keep_cell hb3 c5
  replace c6 := keep_cell hb3 c6
  replace c7 := keep_cell hb3 c7
  replace c8 := keep_cell hb3 c8
  replace c9 := keep_cell hb3 c9
  replace c10 := keep_cell hb3 c10
  have hw3 : Below w.heap.size w w3 := bw_call hb3 hw2
  clear hb3 hw2 KD
  go_wp2_with fail
  refine (KF.out _).mono ?_
  rintro x w4 ⟨rfl, hb4⟩
  have x0 : w4.cell? ⟨w3.heap.size, 0, none⟩ = some (.int .i64 0) := keep_cell hb4 (new_cell rfl rfl)
  have x1 : w4.cell? ⟨w3.heap.size, 1, none⟩ = some (.int .i64 0) := keep_cell hb4 (new_cell rfl rfl)
  have x2 : w4.cell? ⟨w3.heap.size, 2, none⟩ = some (.int .i64 0) := keep_cell hb4 (new_cell rfl rfl)
  have x3 : w4.cell? ⟨w3.heap.size, 3, none⟩ = some (.int .i64 0) := keep_cell hb4 (new_cell rfl rfl)
  have x4 : w4.cell? ⟨w3.heap.size, 4, none⟩ = some (.int .i64 0) := keep_cell hb4 (new_cell rfl rfl)
  have x5 : w4.cell? ⟨w3.heap.size, 5, none⟩ = some (.string ⟨#[]⟩) := keep_cell hb4 (new_cell rfl rfl)
  have x6 : w4.cell? ⟨w3.heap.size, 6, none⟩ = some (.bool false) := keep_cell hb4 (new_cell rfl rfl)
  have x7 : w4.cell? ⟨w3.heap.size, 7, none⟩ = some (.string ⟨#[]⟩) := keep_cell hb4 (new_cell rfl rfl)
  have x8 : w4.cell? ⟨w3.heap.size, 8, none⟩ = some (.bool false) := keep_cell hb4 (new_cell rfl rfl)
  have x9 : w4.cell? ⟨w3.heap.size, 9, none⟩ = some (.string ⟨#[]⟩) := keep_cell hb4 (new_cell rfl rfl)
  have x10 : w4.cell? ⟨w3.heap.size, 10, none⟩ = some (.int .i64 0) := keep_cell hb4 (new_cell rfl rfl)
  replace c0 := keep_cell hb4 (keep_alloc c0)
  replace c1 := keep_cell hb4 (keep_alloc c1)
  replace c2 := keep_cell hb4 (keep_alloc c2)
  replace c3 := keep_cell hb4 (keep_alloc c3)
  replace c4 := keep_cell hb4 (keep_alloc c4)
  replace c5 := keep_cell hb4 (keep_alloc c5)
  replace c6 := keep_cell hb4 (keep_alloc c6)
  replace c7 := keep_cell hb4 (keep_alloc c7)
  replace c8 := keep_cell hb4 (keep_alloc c8)
  replace c9 := keep_cell hb4 (keep_alloc c9)
  replace c10 := keep_cell hb4 (keep_alloc c10)
  have y0 := fun o => keep_alloc (o := o) x0
  have y1 := fun o => keep_alloc (o := o) x1
  have y2 := fun o => keep_alloc (o := o) x2
  have y3 := fun o => keep_alloc (o := o) x3
  have y4 := fun o => keep_alloc (o := o) x4
  have y5 := fun o => keep_alloc (o := o) x5
  have y6 := fun o => keep_alloc (o := o) x6
  have y7 := fun o => keep_alloc (o := o) x7
  have y8 := fun o => keep_alloc (o := o) x8
  have y9 := fun o => keep_alloc (o := o) x9
  have y10 := fun o => keep_alloc (o := o) x10
  have d0 := fun o => keep_alloc (o := o) c0
  have d1 := fun o => keep_alloc (o := o) c1
  have d2 := fun o => keep_alloc (o := o) c2
  have d3 := fun o => keep_alloc (o := o) c3
  have d4 := fun o => keep_alloc (o := o) c4
  have d5 := fun o => keep_alloc (o := o) c5
  have d6 := fun o => keep_alloc (o := o) c6
  have d7 := fun o => keep_alloc (o := o) c7
  have d8 := fun o => keep_alloc (o := o) c8
  have d9 := fun o => keep_alloc (o := o) c9
  have d10 := fun o => keep_alloc (o := o) c10
  have hw4 : Below w.heap.size w w4 := bw_call hb4 (bw_alloc hw3)
  clear hb4 hw3 KF
  go_wp2_with fail
  refine (K1.out _).mono ?_
  rintro x w5 ⟨rfl, hb5⟩
  replace c0 := keep_cell hb5 (d0 _)
  replace c1 := keep_cell hb5 (d1 _)
  replace c2 := keep_cell hb5 (d2 _)
  replace c3 := keep_cell hb5 (d3 _)
  replace c4 := keep_cell hb5 (d4 _)
  replace c5 := keep_cell hb5 (d5 _)
  replace c6 := keep_cell hb5 (d6 _)
  replace c7 := keep_cell hb5 (d7 _)
  replace c8 := keep_cell hb5 (d8 _)
  replace c9 := keep_cell hb5 (d9 _)
  replace c10 := keep_cell hb5 (d10 _)
  have hw5 : Below w.heap.size w w5 := bw_call hb5 (bw_alloc hw4)
  clear hb5 K1 hw4 x0 y0 d0 x1 y1 d1 x2 y2 d2 x3 y3 d3 x4 y4 d4 x5 y5 d5 x6 y6 d6 x7 y7 d7 x8 y8 d8 x9 y9 d9 x10 y10 d10
  go_wp2_with fail
  refine (KZ.out _).mono ?_
  rintro x w6 ⟨rfl, hb6⟩
  replace c0 := keep_cell hb6 c0
  replace c1 := keep_cell hb6 c1
  replace c2 := keep_cell hb6 c2
  replace c3 := keep_cell hb6 c3
  replace c4 := keep_cell hb6 c4
  replace c5 := keep_cell hb6 c5
  replace c6 := keep_cell hb6 c6
  replace c7 := keep_cell hb6 c7
  replace c8 := keep_cell hb6 c8
  replace c9 := keep_cell hb6 c9
  replace c10 := keep_cell hb6 c10
  have d0 := fun o => keep_alloc (o := o) c0
  have d1 := fun o => keep_alloc (o := o) c1
  have d2 := fun o => keep_alloc (o := o) c2
  have d3 := fun o => keep_alloc (o := o) c3
  have d4 := fun o => keep_alloc (o := o) c4
  have d5 := fun o => keep_alloc (o := o) c5
  have d6 := fun o => keep_alloc (o := o) c6
  have d7 := fun o => keep_alloc (o := o) c7
  have d8 := fun o => keep_alloc (o := o) c8
  have d9 := fun o => keep_alloc (o := o) c9
  have d10 := fun o => keep_alloc (o := o) c10
  have hw6 : Below w.heap.size w w6 := bw_call hb6 hw5
  clear hb6 KZ hw5
  go_wp2_with fail
  refine (KX.out _).mono ?_
  rintro x w7 ⟨rfl, hb7⟩
  have z0 : w7.cell? ⟨w6.heap.size, 0, none⟩ = some (.int .i64 k) := keep_cell hb7 (new_cell rfl rfl)
  have z1 : w7.cell? ⟨w6.heap.size, 1, none⟩ = some (.int .i64 g) := keep_cell hb7 (new_cell rfl rfl)
  have z2 : w7.cell? ⟨w6.heap.size, 2, none⟩ = some (.int .i64 t) := keep_cell hb7 (new_cell rfl rfl)
  have z3 : w7.cell? ⟨w6.heap.size, 3, none⟩ = some (.int .i64 p) := keep_cell hb7 (new_cell rfl rfl)
  have z4 : w7.cell? ⟨w6.heap.size, 4, none⟩ = some (.int .i64 pg) := keep_cell hb7 (new_cell rfl rfl)
  have z5 : w7.cell? ⟨w6.heap.size, 5, none⟩ = some (.string key) := keep_cell hb7 (new_cell rfl rfl)
  have z6 : w7.cell? ⟨w6.heap.size, 6, none⟩ = some (.bool hb) := keep_cell hb7 (new_cell rfl rfl)
  have z7 : w7.cell? ⟨w6.heap.size, 7, none⟩ = some (.string sb) := keep_cell hb7 (new_cell rfl rfl)
  have z8 : w7.cell? ⟨w6.heap.size, 8, none⟩ = some (.bool ha) := keep_cell hb7 (new_cell rfl rfl)
  have z9 : w7.cell? ⟨w6.heap.size, 9, none⟩ = some (.string sa) := keep_cell hb7 (new_cell rfl rfl)
  have z10 : w7.cell? ⟨w6.heap.size, 10, none⟩ = some (.int .i64 u) := keep_cell hb7 (new_cell rfl rfl)
  replace c0 := keep_cell hb7 (d0 _)
  replace c1 := keep_cell hb7 (d1 _)
  replace c2 := keep_cell hb7 (d2 _)
  replace c3 := keep_cell hb7 (d3 _)
  replace c4 := keep_cell hb7 (d4 _)
  replace c5 := keep_cell hb7 (d5 _)
  replace c6 := keep_cell hb7 (d6 _)
  replace c7 := keep_cell hb7 (d7 _)
  replace c8 := keep_cell hb7 (d8 _)
  replace c9 := keep_cell hb7 (d9 _)
  replace c10 := keep_cell hb7 (d10 _)
  have hw7 : Below w.heap.size w w7 := bw_call hb7 (bw_alloc hw6)
  clear hb7 KX hw6 d0 d1 d2 d3 d4 d5 d6 d7 d8 d9 d10
  go_wp2_with fail
  refine (KA.out _ hw7).mono ?_
  rintro x w8 ⟨rfl, hb8⟩
  go_wp2
  go_ret
  exact ⟨rfl, bw_call hb8 hw7⟩

set_option maxRecDepth 100000 in
set_option maxHeartbeats 4000000 in
theorem bytes_tf (k g t p pg u gsn : Int) (k2 g2 t2 p2 pg2 u2 : Int) (key sb sa b key2 sb2 sa2 : ByteArray) (hb ha hb2 ha2 : Bool) (w : World) (hn : NameAt w) (hG : rcGreat key sb sa = false) (hl : b.size ≤ 1000) (h : rcOk k g t p pg key hb sb ha sa u = false)
    (KD : Hid (∀ W, Calls Tryd.prog 8 #[.int .i64 gsn, .string b] W fun e w' => e = .returned (.tuple #[.agg #[.int .i64 k2, .int .i64 g2, .int .i64 t2, .int .i64 p2, .int .i64 pg2, .string key2, .bool hb2, .string sb2, .bool ha2, .string sa2, .int .i64 u2], .int .i64 0]) ∧ Below W.heap.size W w'))
    (KF : Hid (∀ W, Calls Tryd.prog 9 #[.int .i64 gsn, .string b] W fun e w' => e = .returned (.tuple #[.agg #[.int .i64 k2, .int .i64 g2, .int .i64 t2, .int .i64 p2, .int .i64 pg2, .string key2, .bool hb2, .string sb2, .bool ha2, .string sa2, .int .i64 u2], .bool true]) ∧ Below W.heap.size W w'))
    : Calls Tryd.prog 3 #[.agg #[.int .i64 k, .int .i64 g, .int .i64 t, .int .i64 p, .int .i64 pg, .string key, .bool hb, .string sb, .bool ha, .string sa, .int .i64 u], .int .i64 gsn, .string b] w fun e w' => e = .returned (.bool true) ∧ Below w.heap.size w w' := by
  have KA := Lib.hid (fun W (hW : Below w.heap.size w W) => awake_rc W (hn.below hW))
  have KG := Lib.hid (fun W => great_rc k g t p pg u key sb sa hb ha W)
  rw [hG] at KG
  have KE := Lib.hid (fun W => encode_no k g t p pg u key sb sa hb ha W h)
  have K1 := Lib.hid (fun W => refRight_any k g t p pg u key sb sa hb ha W)
  rw [h] at K1
  have hl : (b.size : Int) ≤ 1000 := by omega
  clear h hG hn
  go_enter Tryd.func3, Tryd.ntmps3
  go_wp2_with fail
  refine (KG.out _).mono ?_
  rintro x w1 ⟨rfl, hb1⟩
  have c0 : w1.cell? ⟨w.heap.size, 0, none⟩ = some (.int .i64 k) := keep_cell hb1 (new_cell rfl rfl)
  have c1 : w1.cell? ⟨w.heap.size, 1, none⟩ = some (.int .i64 g) := keep_cell hb1 (new_cell rfl rfl)
  have c2 : w1.cell? ⟨w.heap.size, 2, none⟩ = some (.int .i64 t) := keep_cell hb1 (new_cell rfl rfl)
  have c3 : w1.cell? ⟨w.heap.size, 3, none⟩ = some (.int .i64 p) := keep_cell hb1 (new_cell rfl rfl)
  have c4 : w1.cell? ⟨w.heap.size, 4, none⟩ = some (.int .i64 pg) := keep_cell hb1 (new_cell rfl rfl)
  have c5 : w1.cell? ⟨w.heap.size, 5, none⟩ = some (.string key) := keep_cell hb1 (new_cell rfl rfl)
  have c6 : w1.cell? ⟨w.heap.size, 6, none⟩ = some (.bool hb) := keep_cell hb1 (new_cell rfl rfl)
  have c7 : w1.cell? ⟨w.heap.size, 7, none⟩ = some (.string sb) := keep_cell hb1 (new_cell rfl rfl)
  have c8 : w1.cell? ⟨w.heap.size, 8, none⟩ = some (.bool ha) := keep_cell hb1 (new_cell rfl rfl)
  have c9 : w1.cell? ⟨w.heap.size, 9, none⟩ = some (.string sa) := keep_cell hb1 (new_cell rfl rfl)
  have c10 : w1.cell? ⟨w.heap.size, 10, none⟩ = some (.int .i64 u) := keep_cell hb1 (new_cell rfl rfl)
  have hw1 : Below w.heap.size w w1 := bw_call hb1 (bw_alloc (Below.refl _ _))
  clear hb1 KG
  go_wp2_with fail
  refine (KE.out _).mono ?_
  rintro x w2 ⟨rfl, hb2⟩
  replace c0 := keep_cell hb2 c0
  replace c1 := keep_cell hb2 c1
  replace c2 := keep_cell hb2 c2
  replace c3 := keep_cell hb2 c3
  replace c4 := keep_cell hb2 c4
  replace c5 := keep_cell hb2 c5
  replace c6 := keep_cell hb2 c6
  replace c7 := keep_cell hb2 c7
  replace c8 := keep_cell hb2 c8
  replace c9 := keep_cell hb2 c9
  replace c10 := keep_cell hb2 c10
  have hw2 : Below w.heap.size w w2 := bw_call hb2 hw1
  clear hb2 hw1 KE
  go_wp2_with fail
  refine (KD.out _).mono ?_
  rintro x w3 ⟨rfl, hb3⟩
  replace c0 := keep_cell hb3 c0
  replace c1 := keep_cell hb3 c1
  replace c2 := keep_cell hb3 c2
  replace c3 := keep_cell hb3 c3
  replace c4 := keep_cell hb3 c4
  replace c5 := keep_cell hb3 c5
  replace c6 := keep_cell hb3 c6
  replace c7 := keep_cell hb3 c7
  replace c8 := keep_cell hb3 c8
  replace c9 := keep_cell hb3 c9
  replace c10 := keep_cell hb3 c10
  have hw3 : Below w.heap.size w w3 := bw_call hb3 hw2
  clear hb3 hw2 KD
  go_wp2_with fail
  refine (KF.out _).mono ?_
  rintro x w4 ⟨rfl, hb4⟩
  have x0 : w4.cell? ⟨w3.heap.size, 0, none⟩ = some (.int .i64 k2) := keep_cell hb4 (new_cell rfl rfl)
  have x1 : w4.cell? ⟨w3.heap.size, 1, none⟩ = some (.int .i64 g2) := keep_cell hb4 (new_cell rfl rfl)
  have x2 : w4.cell? ⟨w3.heap.size, 2, none⟩ = some (.int .i64 t2) := keep_cell hb4 (new_cell rfl rfl)
  have x3 : w4.cell? ⟨w3.heap.size, 3, none⟩ = some (.int .i64 p2) := keep_cell hb4 (new_cell rfl rfl)
  have x4 : w4.cell? ⟨w3.heap.size, 4, none⟩ = some (.int .i64 pg2) := keep_cell hb4 (new_cell rfl rfl)
  have x5 : w4.cell? ⟨w3.heap.size, 5, none⟩ = some (.string key2) := keep_cell hb4 (new_cell rfl rfl)
  have x6 : w4.cell? ⟨w3.heap.size, 6, none⟩ = some (.bool hb2) := keep_cell hb4 (new_cell rfl rfl)
  have x7 : w4.cell? ⟨w3.heap.size, 7, none⟩ = some (.string sb2) := keep_cell hb4 (new_cell rfl rfl)
  have x8 : w4.cell? ⟨w3.heap.size, 8, none⟩ = some (.bool ha2) := keep_cell hb4 (new_cell rfl rfl)
  have x9 : w4.cell? ⟨w3.heap.size, 9, none⟩ = some (.string sa2) := keep_cell hb4 (new_cell rfl rfl)
  have x10 : w4.cell? ⟨w3.heap.size, 10, none⟩ = some (.int .i64 u2) := keep_cell hb4 (new_cell rfl rfl)
  replace c0 := keep_cell hb4 (keep_alloc c0)
  replace c1 := keep_cell hb4 (keep_alloc c1)
  replace c2 := keep_cell hb4 (keep_alloc c2)
  replace c3 := keep_cell hb4 (keep_alloc c3)
  replace c4 := keep_cell hb4 (keep_alloc c4)
  replace c5 := keep_cell hb4 (keep_alloc c5)
  replace c6 := keep_cell hb4 (keep_alloc c6)
  replace c7 := keep_cell hb4 (keep_alloc c7)
  replace c8 := keep_cell hb4 (keep_alloc c8)
  replace c9 := keep_cell hb4 (keep_alloc c9)
  replace c10 := keep_cell hb4 (keep_alloc c10)
  have y0 := fun o => keep_alloc (o := o) x0
  have y1 := fun o => keep_alloc (o := o) x1
  have y2 := fun o => keep_alloc (o := o) x2
  have y3 := fun o => keep_alloc (o := o) x3
  have y4 := fun o => keep_alloc (o := o) x4
  have y5 := fun o => keep_alloc (o := o) x5
  have y6 := fun o => keep_alloc (o := o) x6
  have y7 := fun o => keep_alloc (o := o) x7
  have y8 := fun o => keep_alloc (o := o) x8
  have y9 := fun o => keep_alloc (o := o) x9
  have y10 := fun o => keep_alloc (o := o) x10
  have d0 := fun o => keep_alloc (o := o) c0
  have d1 := fun o => keep_alloc (o := o) c1
  have d2 := fun o => keep_alloc (o := o) c2
  have d3 := fun o => keep_alloc (o := o) c3
  have d4 := fun o => keep_alloc (o := o) c4
  have d5 := fun o => keep_alloc (o := o) c5
  have d6 := fun o => keep_alloc (o := o) c6
  have d7 := fun o => keep_alloc (o := o) c7
  have d8 := fun o => keep_alloc (o := o) c8
  have d9 := fun o => keep_alloc (o := o) c9
  have d10 := fun o => keep_alloc (o := o) c10
  have hw4 : Below w.heap.size w w4 := bw_call hb4 (bw_alloc hw3)
  clear hb4 hw3 KF
  go_wp2_with fail
  refine (K1.out _).mono ?_
  rintro x w5 ⟨rfl, hb5⟩
  have hw5 : Below w.heap.size w w5 := bw_call hb5 (bw_alloc hw4)
  clear hb5 K1 c0 x0 y0 d0 c1 x1 y1 d1 c2 x2 y2 d2 c3 x3 y3 d3 c4 x4 y4 d4 c5 x5 y5 d5 c6 x6 y6 d6 c7 x7 y7 d7 c8 x8 y8 d8 c9 x9 y9 d9 c10 x10 y10 d10
  go_wp2_with fail
  refine (KA.out _ hw5).mono ?_
  rintro x w6 ⟨rfl, hb6⟩
  go_wp2
  go_ret
  exact ⟨rfl, bw_call hb6 hw5⟩

set_option maxRecDepth 100000 in
set_option maxHeartbeats 4000000 in
theorem bytes_tt (k g t p pg u gsn : Int) (k2 g2 t2 p2 pg2 u2 : Int) (key sb sa b key2 sb2 sa2 E : ByteArray) (hb ha hb2 ha2 : Bool) (w : World) (hn : NameAt w) (hG : rcGreat key sb sa = false) (hl : b.size ≤ 1000) (h : rcOk k g t p pg key hb sb ha sa u = true)
    (KD : Hid (∀ W, Calls Tryd.prog 8 #[.int .i64 gsn, .string b] W fun e w' => e = .returned (.tuple #[.agg #[.int .i64 k2, .int .i64 g2, .int .i64 t2, .int .i64 p2, .int .i64 pg2, .string key2, .bool hb2, .string sb2, .bool ha2, .string sa2, .int .i64 u2], .int .i64 0]) ∧ Below W.heap.size W w'))
    (KF : Hid (∀ W, Calls Tryd.prog 9 #[.int .i64 gsn, .string b] W fun e w' => e = .returned (.tuple #[.agg #[.int .i64 k2, .int .i64 g2, .int .i64 t2, .int .i64 p2, .int .i64 pg2, .string key2, .bool hb2, .string sb2, .bool ha2, .string sa2, .int .i64 u2], .bool true]) ∧ Below W.heap.size W w'))
    (hE : encStr k t p pg key hb sb ha sa u = E)
    (KZ : Hid (∀ W, Calls Tryd.prog 8 #[.int .i64 g, .string E] W fun e w' => e = .returned (.tuple #[.agg #[.int .i64 k, .int .i64 g, .int .i64 t, .int .i64 p, .int .i64 pg, .string key, .bool hb, .string sb, .bool ha, .string sa, .int .i64 u], .int .i64 0]) ∧ Below W.heap.size W w'))
    : Calls Tryd.prog 3 #[.agg #[.int .i64 k, .int .i64 g, .int .i64 t, .int .i64 p, .int .i64 pg, .string key, .bool hb, .string sb, .bool ha, .string sa, .int .i64 u], .int .i64 gsn, .string b] w fun e w' => e = .returned (.bool true) ∧ Below w.heap.size w w' := by
  have KA := Lib.hid (fun W (hW : Below w.heap.size w W) => awake_rc W (hn.below hW))
  have KG := Lib.hid (fun W => great_rc k g t p pg u key sb sa hb ha W)
  rw [hG] at KG
  have KE := Lib.hid (fun W => encode_yes k g t p pg u key sb sa hb ha W h)
  rw [hE] at KE
  have KX := Lib.hid (fun W => refEncode_any k g t p pg u key sb sa hb ha W h)
  rw [hE] at KX
  have K1 := Lib.hid (fun W => refRight_any k g t p pg u key sb sa hb ha W)
  rw [h] at K1
  have hl : (b.size : Int) ≤ 1000 := by omega
  clear h hG hn hE
  go_enter Tryd.func3, Tryd.ntmps3
  go_wp2_with fail
  refine (KG.out _).mono ?_
  rintro x w1 ⟨rfl, hb1⟩
  have c0 : w1.cell? ⟨w.heap.size, 0, none⟩ = some (.int .i64 k) := keep_cell hb1 (new_cell rfl rfl)
  have c1 : w1.cell? ⟨w.heap.size, 1, none⟩ = some (.int .i64 g) := keep_cell hb1 (new_cell rfl rfl)
  have c2 : w1.cell? ⟨w.heap.size, 2, none⟩ = some (.int .i64 t) := keep_cell hb1 (new_cell rfl rfl)
  have c3 : w1.cell? ⟨w.heap.size, 3, none⟩ = some (.int .i64 p) := keep_cell hb1 (new_cell rfl rfl)
  have c4 : w1.cell? ⟨w.heap.size, 4, none⟩ = some (.int .i64 pg) := keep_cell hb1 (new_cell rfl rfl)
  have c5 : w1.cell? ⟨w.heap.size, 5, none⟩ = some (.string key) := keep_cell hb1 (new_cell rfl rfl)
  have c6 : w1.cell? ⟨w.heap.size, 6, none⟩ = some (.bool hb) := keep_cell hb1 (new_cell rfl rfl)
  have c7 : w1.cell? ⟨w.heap.size, 7, none⟩ = some (.string sb) := keep_cell hb1 (new_cell rfl rfl)
  have c8 : w1.cell? ⟨w.heap.size, 8, none⟩ = some (.bool ha) := keep_cell hb1 (new_cell rfl rfl)
  have c9 : w1.cell? ⟨w.heap.size, 9, none⟩ = some (.string sa) := keep_cell hb1 (new_cell rfl rfl)
  have c10 : w1.cell? ⟨w.heap.size, 10, none⟩ = some (.int .i64 u) := keep_cell hb1 (new_cell rfl rfl)
  have hw1 : Below w.heap.size w w1 := bw_call hb1 (bw_alloc (Below.refl _ _))
  clear hb1 KG
  go_wp2_with fail
  refine (KE.out _).mono ?_
  rintro x w2 ⟨rfl, hb2⟩
  replace c0 := keep_cell hb2 c0
  replace c1 := keep_cell hb2 c1
  replace c2 := keep_cell hb2 c2
  replace c3 := keep_cell hb2 c3
  replace c4 := keep_cell hb2 c4
  replace c5 := keep_cell hb2 c5
  replace c6 := keep_cell hb2 c6
  replace c7 := keep_cell hb2 c7
  replace c8 := keep_cell hb2 c8
  replace c9 := keep_cell hb2 c9
  replace c10 := keep_cell hb2 c10
  have hw2 : Below w.heap.size w w2 := bw_call hb2 hw1
  clear hb2 hw1 KE
  go_wp2_with fail
  refine (KD.out _).mono ?_
  rintro x w3 ⟨rfl, hb3⟩
  replace c0 := keep_cell hb3 c0
  replace c1 := keep_cell hb3 c1
  replace c2 := keep_cell hb3 c2
  replace c3 := keep_cell hb3 c3
  replace c4 := keep_cell hb3 c4
  replace c5 := keep_cell hb3 c5
  replace c6 := keep_cell hb3 c6
  replace c7 := keep_cell hb3 c7
  replace c8 := keep_cell hb3 c8
  replace c9 := keep_cell hb3 c9
  replace c10 := keep_cell hb3 c10
  have hw3 : Below w.heap.size w w3 := bw_call hb3 hw2
  clear hb3 hw2 KD
  go_wp2_with fail
  refine (KF.out _).mono ?_
  rintro x w4 ⟨rfl, hb4⟩
  have x0 : w4.cell? ⟨w3.heap.size, 0, none⟩ = some (.int .i64 k2) := keep_cell hb4 (new_cell rfl rfl)
  have x1 : w4.cell? ⟨w3.heap.size, 1, none⟩ = some (.int .i64 g2) := keep_cell hb4 (new_cell rfl rfl)
  have x2 : w4.cell? ⟨w3.heap.size, 2, none⟩ = some (.int .i64 t2) := keep_cell hb4 (new_cell rfl rfl)
  have x3 : w4.cell? ⟨w3.heap.size, 3, none⟩ = some (.int .i64 p2) := keep_cell hb4 (new_cell rfl rfl)
  have x4 : w4.cell? ⟨w3.heap.size, 4, none⟩ = some (.int .i64 pg2) := keep_cell hb4 (new_cell rfl rfl)
  have x5 : w4.cell? ⟨w3.heap.size, 5, none⟩ = some (.string key2) := keep_cell hb4 (new_cell rfl rfl)
  have x6 : w4.cell? ⟨w3.heap.size, 6, none⟩ = some (.bool hb2) := keep_cell hb4 (new_cell rfl rfl)
  have x7 : w4.cell? ⟨w3.heap.size, 7, none⟩ = some (.string sb2) := keep_cell hb4 (new_cell rfl rfl)
  have x8 : w4.cell? ⟨w3.heap.size, 8, none⟩ = some (.bool ha2) := keep_cell hb4 (new_cell rfl rfl)
  have x9 : w4.cell? ⟨w3.heap.size, 9, none⟩ = some (.string sa2) := keep_cell hb4 (new_cell rfl rfl)
  have x10 : w4.cell? ⟨w3.heap.size, 10, none⟩ = some (.int .i64 u2) := keep_cell hb4 (new_cell rfl rfl)
  replace c0 := keep_cell hb4 (keep_alloc c0)
  replace c1 := keep_cell hb4 (keep_alloc c1)
  replace c2 := keep_cell hb4 (keep_alloc c2)
  replace c3 := keep_cell hb4 (keep_alloc c3)
  replace c4 := keep_cell hb4 (keep_alloc c4)
  replace c5 := keep_cell hb4 (keep_alloc c5)
  replace c6 := keep_cell hb4 (keep_alloc c6)
  replace c7 := keep_cell hb4 (keep_alloc c7)
  replace c8 := keep_cell hb4 (keep_alloc c8)
  replace c9 := keep_cell hb4 (keep_alloc c9)
  replace c10 := keep_cell hb4 (keep_alloc c10)
  have y0 := fun o => keep_alloc (o := o) x0
  have y1 := fun o => keep_alloc (o := o) x1
  have y2 := fun o => keep_alloc (o := o) x2
  have y3 := fun o => keep_alloc (o := o) x3
  have y4 := fun o => keep_alloc (o := o) x4
  have y5 := fun o => keep_alloc (o := o) x5
  have y6 := fun o => keep_alloc (o := o) x6
  have y7 := fun o => keep_alloc (o := o) x7
  have y8 := fun o => keep_alloc (o := o) x8
  have y9 := fun o => keep_alloc (o := o) x9
  have y10 := fun o => keep_alloc (o := o) x10
  have d0 := fun o => keep_alloc (o := o) c0
  have d1 := fun o => keep_alloc (o := o) c1
  have d2 := fun o => keep_alloc (o := o) c2
  have d3 := fun o => keep_alloc (o := o) c3
  have d4 := fun o => keep_alloc (o := o) c4
  have d5 := fun o => keep_alloc (o := o) c5
  have d6 := fun o => keep_alloc (o := o) c6
  have d7 := fun o => keep_alloc (o := o) c7
  have d8 := fun o => keep_alloc (o := o) c8
  have d9 := fun o => keep_alloc (o := o) c9
  have d10 := fun o => keep_alloc (o := o) c10
  have hw4 : Below w.heap.size w w4 := bw_call hb4 (bw_alloc hw3)
  clear hb4 hw3 KF
  go_wp2_with fail
  refine (K1.out _).mono ?_
  rintro x w5 ⟨rfl, hb5⟩
  replace c0 := keep_cell hb5 (d0 _)
  replace c1 := keep_cell hb5 (d1 _)
  replace c2 := keep_cell hb5 (d2 _)
  replace c3 := keep_cell hb5 (d3 _)
  replace c4 := keep_cell hb5 (d4 _)
  replace c5 := keep_cell hb5 (d5 _)
  replace c6 := keep_cell hb5 (d6 _)
  replace c7 := keep_cell hb5 (d7 _)
  replace c8 := keep_cell hb5 (d8 _)
  replace c9 := keep_cell hb5 (d9 _)
  replace c10 := keep_cell hb5 (d10 _)
  have hw5 : Below w.heap.size w w5 := bw_call hb5 (bw_alloc hw4)
  clear hb5 K1 hw4 x0 y0 d0 x1 y1 d1 x2 y2 d2 x3 y3 d3 x4 y4 d4 x5 y5 d5 x6 y6 d6 x7 y7 d7 x8 y8 d8 x9 y9 d9 x10 y10 d10
  go_wp2_with fail
  refine (KZ.out _).mono ?_
  rintro x w6 ⟨rfl, hb6⟩
  replace c0 := keep_cell hb6 c0
  replace c1 := keep_cell hb6 c1
  replace c2 := keep_cell hb6 c2
  replace c3 := keep_cell hb6 c3
  replace c4 := keep_cell hb6 c4
  replace c5 := keep_cell hb6 c5
  replace c6 := keep_cell hb6 c6
  replace c7 := keep_cell hb6 c7
  replace c8 := keep_cell hb6 c8
  replace c9 := keep_cell hb6 c9
  replace c10 := keep_cell hb6 c10
  have d0 := fun o => keep_alloc (o := o) c0
  have d1 := fun o => keep_alloc (o := o) c1
  have d2 := fun o => keep_alloc (o := o) c2
  have d3 := fun o => keep_alloc (o := o) c3
  have d4 := fun o => keep_alloc (o := o) c4
  have d5 := fun o => keep_alloc (o := o) c5
  have d6 := fun o => keep_alloc (o := o) c6
  have d7 := fun o => keep_alloc (o := o) c7
  have d8 := fun o => keep_alloc (o := o) c8
  have d9 := fun o => keep_alloc (o := o) c9
  have d10 := fun o => keep_alloc (o := o) c10
  have hw6 : Below w.heap.size w w6 := bw_call hb6 hw5
  clear hb6 KZ hw5
  go_wp2_with fail
  refine (KX.out _).mono ?_
  rintro x w7 ⟨rfl, hb7⟩
  have z0 : w7.cell? ⟨w6.heap.size, 0, none⟩ = some (.int .i64 k) := keep_cell hb7 (new_cell rfl rfl)
  have z1 : w7.cell? ⟨w6.heap.size, 1, none⟩ = some (.int .i64 g) := keep_cell hb7 (new_cell rfl rfl)
  have z2 : w7.cell? ⟨w6.heap.size, 2, none⟩ = some (.int .i64 t) := keep_cell hb7 (new_cell rfl rfl)
  have z3 : w7.cell? ⟨w6.heap.size, 3, none⟩ = some (.int .i64 p) := keep_cell hb7 (new_cell rfl rfl)
  have z4 : w7.cell? ⟨w6.heap.size, 4, none⟩ = some (.int .i64 pg) := keep_cell hb7 (new_cell rfl rfl)
  have z5 : w7.cell? ⟨w6.heap.size, 5, none⟩ = some (.string key) := keep_cell hb7 (new_cell rfl rfl)
  have z6 : w7.cell? ⟨w6.heap.size, 6, none⟩ = some (.bool hb) := keep_cell hb7 (new_cell rfl rfl)
  have z7 : w7.cell? ⟨w6.heap.size, 7, none⟩ = some (.string sb) := keep_cell hb7 (new_cell rfl rfl)
  have z8 : w7.cell? ⟨w6.heap.size, 8, none⟩ = some (.bool ha) := keep_cell hb7 (new_cell rfl rfl)
  have z9 : w7.cell? ⟨w6.heap.size, 9, none⟩ = some (.string sa) := keep_cell hb7 (new_cell rfl rfl)
  have z10 : w7.cell? ⟨w6.heap.size, 10, none⟩ = some (.int .i64 u) := keep_cell hb7 (new_cell rfl rfl)
  replace c0 := keep_cell hb7 (d0 _)
  replace c1 := keep_cell hb7 (d1 _)
  replace c2 := keep_cell hb7 (d2 _)
  replace c3 := keep_cell hb7 (d3 _)
  replace c4 := keep_cell hb7 (d4 _)
  replace c5 := keep_cell hb7 (d5 _)
  replace c6 := keep_cell hb7 (d6 _)
  replace c7 := keep_cell hb7 (d7 _)
  replace c8 := keep_cell hb7 (d8 _)
  replace c9 := keep_cell hb7 (d9 _)
  replace c10 := keep_cell hb7 (d10 _)
  have hw7 : Below w.heap.size w w7 := bw_call hb7 (bw_alloc hw6)
  clear hb7 KX hw6 d0 d1 d2 d3 d4 d5 d6 d7 d8 d9 d10
  go_wp2_with fail
  refine (KA.out _ hw7).mono ?_
  rintro x w8 ⟨rfl, hb8⟩
  go_wp2
  go_ret
  exact ⟨rfl, bw_call hb8 hw7⟩

set_option maxHeartbeats 1000000 in
theorem bytes_great (k g t p pg u gsn : Int) (key sb sa b : ByteArray) (hb ha : Bool) (w : World) (hn : NameAt w) (hG : rcGreat key sb sa = true) :
    Calls Tryd.prog 3 #[.agg #[.int .i64 k, .int .i64 g, .int .i64 t, .int .i64 p, .int .i64 pg, .string key, .bool hb, .string sb, .bool ha, .string sa, .int .i64 u], .int .i64 gsn, .string b] w fun e w' => e = .returned (.bool true) ∧ Below w.heap.size w w' := by
  have KA := Lib.hid (fun W (hW : Below w.heap.size w W) => awake_rc W (hn.below hW))
  have KG := Lib.hid (fun W => great_rc k g t p pg u key sb sa hb ha W)
  rw [hG] at KG
  clear hG hn
  go_enter Tryd.func3, Tryd.ntmps3
  go_wp2_with fail
  refine (KG.out _).mono ?_
  rintro x w1 ⟨rfl, hb1⟩
  have hw1 : Below w.heap.size w w1 := bw_call hb1 (bw_alloc (Below.refl _ _))
  go_wp2_with fail
  refine (KA.out _ hw1).mono ?_
  rintro x w5 ⟨rfl, hb5⟩
  go_wp2
  go_ret
  exact ⟨rfl, bw_call hb5 hw1⟩

set_option maxHeartbeats 1000000 in
theorem bytes_long (k g t p pg u gsn : Int) (key sb sa b : ByteArray) (hb ha : Bool) (w : World) (hn : NameAt w) (hG : rcGreat key sb sa = false) (hl : ¬ b.size ≤ 1000) :
    Calls Tryd.prog 3 #[.agg #[.int .i64 k, .int .i64 g, .int .i64 t, .int .i64 p, .int .i64 pg, .string key, .bool hb, .string sb, .bool ha, .string sa, .int .i64 u], .int .i64 gsn, .string b] w fun e w' => e = .returned (.bool true) ∧ Below w.heap.size w w' := by
  have KA := Lib.hid (fun W (hW : Below w.heap.size w W) => awake_rc W (hn.below hW))
  have KG := Lib.hid (fun W => great_rc k g t p pg u key sb sa hb ha W)
  rw [hG] at KG
  have hl : (1000 : Int) < (b.size : Int) := by omega
  clear hG hn
  go_enter Tryd.func3, Tryd.ntmps3
  go_wp2_with fail
  refine (KG.out _).mono ?_
  rintro x w1 ⟨rfl, hb1⟩
  have hw1 : Below w.heap.size w w1 := bw_call hb1 (bw_alloc (Below.refl _ _))
  go_wp2_with fail
  refine (KA.out _ hw1).mono ?_
  rintro x w5 ⟨rfl, hb5⟩
  go_wp2
  go_ret
  exact ⟨rfl, bw_call hb5 hw1⟩


theorem rd_g (gsn : Int) (s : ByteArray) : (rd gsn s).g = gsn := by
  unfold rd
  split <;> rfl
/-- The program's Decode and the reference's, of any bytes. -/
theorem dec_same (gsn : Int) (b : ByteArray) (hs : b.size ≤ 1000) :
    (∃ r : Rc, (∀ W, Calls Tryd.prog 8 #[.int .i64 gsn, .string b] W fun e w' => e = .returned (.tuple #[r.v, .int .i64 0]) ∧ Below W.heap.size W w') ∧
      (∀ W, Calls Tryd.prog 9 #[.int .i64 gsn, .string b] W fun e w' => e = .returned (.tuple #[r.v, .bool true]) ∧ Below W.heap.size W w')) ∨
    ((∀ W, Calls Tryd.prog 8 #[.int .i64 gsn, .string b] W fun e w' => e = .returned (.tuple #[.agg #[.int .i64 0, .int .i64 0, .int .i64 0, .int .i64 0, .int .i64 0, .string ⟨#[]⟩, .bool false, .string ⟨#[]⟩, .bool false, .string ⟨#[]⟩, .int .i64 0], .int .i64 2]) ∧ Below W.heap.size W w') ∧
      (∀ W, Calls Tryd.prog 9 #[.int .i64 gsn, .string b] W fun e w' => e = .returned (.tuple #[.agg #[.int .i64 0, .int .i64 0, .int .i64 0, .int .i64 0, .int .i64 0, .string ⟨#[]⟩, .bool false, .string ⟨#[]⟩, .bool false, .string ⟨#[]⟩, .int .i64 0], .bool false]) ∧ Below W.heap.size W w')) := by
  by_cases c : (rd gsn b).ok = true ∧ (rd gsn b).enc = b
  · refine .inl ⟨rd gsn b, fun W => ?_, fun W => ?_⟩
    · rcases decode_any gsn b W hs with ⟨r, hg, hok, hb, hc⟩ | ⟨hno, _⟩
      · have e : rd gsn b = r := by rw [← hg, hb]; exact rd_enc r hok
        rw [e]; exact hc
      · exact absurd c.2.symm (hno _ (rd_g _ _) c.1)
    · have h := refDecode_any gsn b W hs
      unfold rdAns at h
      rw [if_pos c] at h
      exact h
  · refine .inr ⟨fun W => ?_, fun W => ?_⟩
    · rcases decode_any gsn b W hs with ⟨r, hg, hok, hb, hc⟩ | ⟨_, hc⟩
      · have e : rd gsn b = r := by rw [← hg, hb]; exact rd_enc r hok
        exact absurd ⟨by rw [e]; exact hok, by rw [e]; exact hb.symm⟩ c
      · exact hc
    · have h := refDecode_any gsn b W hs
      unfold rdAns at h
      rw [if_neg c] at h
      exact h
/-- A right record's bytes are decoded as it was. -/
theorem dec_self (r : Rc) (h : r.ok = true) (W : World) : Calls Tryd.prog 8 #[.int .i64 r.g, .string r.enc] W fun e w' => e = .returned (.tuple #[r.v, .int .i64 0]) ∧ Below W.heap.size W w' := by
  have hz : r.enc.size ≤ 1000 := Nat.le_trans (encStr_size h).2 (by decide)
  rcases decode_any r.g r.enc W hz with ⟨r', hg, hok, hb, hc⟩ | ⟨hno, _⟩
  · have e : r = r' := by
      rw [← rd_enc r h, hb, ← hg]; exact rd_enc r' hok
    rw [← e] at hc; exact hc
  · exact absurd rfl (hno r rfl h)
theorem recordBytes_walk (k g t p pg u gsn : Int) (key sb sa b : ByteArray) (hb ha : Bool) (w : World) (hn : NameAt w) :
    Calls Tryd.prog 3 #[.agg #[.int .i64 k, .int .i64 g, .int .i64 t, .int .i64 p, .int .i64 pg, .string key, .bool hb, .string sb, .bool ha, .string sa, .int .i64 u], .int .i64 gsn, .string b] w fun e w' => e = .returned (.bool true) ∧ Below w.heap.size w w' := by
  cases hG : rcGreat key sb sa
  · by_cases hl : b.size ≤ 1000
    · rcases dec_same gsn b hl with ⟨⟨k2, g2, t2, p2, pg2, key2, hb2, sb2, ha2, sa2, u2⟩, KD, KF⟩ | ⟨KD, KF⟩
      · cases h : rcOk k g t p pg key hb sb ha sa u
        · exact bytes_tf k g t p pg u gsn k2 g2 t2 p2 pg2 u2 key sb sa b key2 sb2 sa2 hb ha hb2 ha2 w hn hG hl h (Lib.hid KD) (Lib.hid KF)
        · exact bytes_tt k g t p pg u gsn k2 g2 t2 p2 pg2 u2 key sb sa b key2 sb2 sa2 (encStr k t p pg key hb sb ha sa u) hb ha hb2 ha2 w hn hG hl h (Lib.hid KD) (Lib.hid KF) rfl (Lib.hid (fun W => dec_self ⟨k, g, t, p, pg, key, hb, sb, ha, sa, u⟩ h W))
      · cases h : rcOk k g t p pg key hb sb ha sa u
        · exact bytes_ff k g t p pg u gsn key sb sa b hb ha w hn hG hl h (Lib.hid KD) (Lib.hid KF)
        · exact bytes_ft k g t p pg u gsn key sb sa b (encStr k t p pg key hb sb ha sa u) hb ha w hn hG hl h (Lib.hid KD) (Lib.hid KF) rfl (Lib.hid (fun W => dec_self ⟨k, g, t, p, pg, key, hb, sb, ha, sa, u⟩ h W))
    · exact bytes_long k g t p pg u gsn key sb sa b hb ha w hn hG hl
  · exact bytes_great k g t p pg u gsn key sb sa b hb ha w hn hG
end Go.Proofs.YtlggbbaigcnpjaaDoor
