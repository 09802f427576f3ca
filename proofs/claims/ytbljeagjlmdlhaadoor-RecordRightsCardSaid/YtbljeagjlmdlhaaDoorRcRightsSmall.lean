/-
  THE WALK OF quadrigalaw04.RecordRights: it returns true, and writes nothing that was there.
-/
import Derived.Test.YtbljeagjlmdlhaaDoorRcRights
namespace Go.Proofs.YtbljeagjlmdlhaaDoor
open Go.RowKit

set_option maxHeartbeats 2000000 in
theorem rights_a (ak ag ax ap aq au : Int) (akey asb asa : ByteArray) (ahb aha : Bool) (bk bg bt bp bq bu : Int) (bkey bsb bsa : ByteArray) (bhb bha : Bool) (key vs : ByteArray) (vh : Bool) (w : World) (hn : NameAt w) (hGa : rcGreat akey asb asa = true) :
    Calls Tryd.prog 3 #[.agg #[.int .i64 ak, .int .i64 ag, .int .i64 ax, .int .i64 ap, .int .i64 aq, .string akey, .bool ahb, .string asb, .bool aha, .string asa, .int .i64 au], .agg #[.int .i64 bk, .int .i64 bg, .int .i64 bt, .int .i64 bp, .int .i64 bq, .string bkey, .bool bhb, .string bsb, .bool bha, .string bsa, .int .i64 bu], .string key, .agg #[.bool vh, .string vs]] w fun e w' => e = .returned (.bool true) ∧ Below w.heap.size w w' := by
  have KA := Lib.hid (fun W (hW : Below w.heap.size w W) => awake_rc W (hn.below hW))
  have KGa := Lib.hid (fun W => great_rc ak ag ax ap aq au akey asb asa ahb aha W)
  have KGb := Lib.hid (fun W => great_rc bk bg bt bp bq bu bkey bsb bsa bhb bha W)
  rw [hGa] at KGa
  clear hGa hn KGb
  go_enter Tryd.func3, Tryd.ntmps3
  go_wp2_with fail
  refine (KGa.out _).mono ?_
  rintro x w1 ⟨rfl, hb1⟩
  have hw1 : Below w.heap.size w w1 := bw_call hb1 (bw_alloc (bw_alloc (bw_alloc (Below.refl _ _))))
  go_wp2_with fail
  refine (KA.out _ hw1).mono ?_
  rintro x w5 ⟨rfl, hb5⟩
  go_wp2
  go_ret
  exact ⟨rfl, bw_call hb5 hw1⟩
set_option maxHeartbeats 2000000 in
theorem rights_b (ak ag ax ap aq au : Int) (akey asb asa : ByteArray) (ahb aha : Bool) (bk bg bt bp bq bu : Int) (bkey bsb bsa : ByteArray) (bhb bha : Bool) (key vs : ByteArray) (vh : Bool) (w : World) (hn : NameAt w) (hGa : rcGreat akey asb asa = false) (hGb : rcGreat bkey bsb bsa = true) :
    Calls Tryd.prog 3 #[.agg #[.int .i64 ak, .int .i64 ag, .int .i64 ax, .int .i64 ap, .int .i64 aq, .string akey, .bool ahb, .string asb, .bool aha, .string asa, .int .i64 au], .agg #[.int .i64 bk, .int .i64 bg, .int .i64 bt, .int .i64 bp, .int .i64 bq, .string bkey, .bool bhb, .string bsb, .bool bha, .string bsa, .int .i64 bu], .string key, .agg #[.bool vh, .string vs]] w fun e w' => e = .returned (.bool true) ∧ Below w.heap.size w w' := by
  have KA := Lib.hid (fun W (hW : Below w.heap.size w W) => awake_rc W (hn.below hW))
  have KGa := Lib.hid (fun W => great_rc ak ag ax ap aq au akey asb asa ahb aha W)
  have KGb := Lib.hid (fun W => great_rc bk bg bt bp bq bu bkey bsb bsa bhb bha W)
  rw [hGa] at KGa
  rw [hGb] at KGb
  clear hGa hGb hn
  go_enter Tryd.func3, Tryd.ntmps3
  go_wp2_with fail
  refine (KGa.out _).mono ?_
  rintro x w1 ⟨rfl, hb1⟩
  have hw1 : Below w.heap.size w w1 := bw_call hb1 (bw_alloc (bw_alloc (bw_alloc (Below.refl _ _))))
  have a0 : w1.cell? ⟨w.heap.size, 0, none⟩ = some (.int .i64 ak) := keep_cell hb1 (keep_alloc (keep_alloc (new_cell rfl rfl)))
  have a1 : w1.cell? ⟨w.heap.size, 1, none⟩ = some (.int .i64 ag) := keep_cell hb1 (keep_alloc (keep_alloc (new_cell rfl rfl)))
  have a2 : w1.cell? ⟨w.heap.size, 2, none⟩ = some (.int .i64 ax) := keep_cell hb1 (keep_alloc (keep_alloc (new_cell rfl rfl)))
  have a3 : w1.cell? ⟨w.heap.size, 3, none⟩ = some (.int .i64 ap) := keep_cell hb1 (keep_alloc (keep_alloc (new_cell rfl rfl)))
  have a4 : w1.cell? ⟨w.heap.size, 4, none⟩ = some (.int .i64 aq) := keep_cell hb1 (keep_alloc (keep_alloc (new_cell rfl rfl)))
  have a5 : w1.cell? ⟨w.heap.size, 5, none⟩ = some (.string akey) := keep_cell hb1 (keep_alloc (keep_alloc (new_cell rfl rfl)))
  have a6 : w1.cell? ⟨w.heap.size, 6, none⟩ = some (.bool ahb) := keep_cell hb1 (keep_alloc (keep_alloc (new_cell rfl rfl)))
  have a7 : w1.cell? ⟨w.heap.size, 7, none⟩ = some (.string asb) := keep_cell hb1 (keep_alloc (keep_alloc (new_cell rfl rfl)))
  have a8 : w1.cell? ⟨w.heap.size, 8, none⟩ = some (.bool aha) := keep_cell hb1 (keep_alloc (keep_alloc (new_cell rfl rfl)))
  have a9 : w1.cell? ⟨w.heap.size, 9, none⟩ = some (.string asa) := keep_cell hb1 (keep_alloc (keep_alloc (new_cell rfl rfl)))
  have a10 : w1.cell? ⟨w.heap.size, 10, none⟩ = some (.int .i64 au) := keep_cell hb1 (keep_alloc (keep_alloc (new_cell rfl rfl)))
  have b0 : w1.cell? ⟨w.heap.size + 1, 0, none⟩ = some (.int .i64 bk) := keep_cell hb1 (keep_alloc (new_cell (by rw [World.size_alloc]) rfl))
  have b1 : w1.cell? ⟨w.heap.size + 1, 1, none⟩ = some (.int .i64 bg) := keep_cell hb1 (keep_alloc (new_cell (by rw [World.size_alloc]) rfl))
  have b2 : w1.cell? ⟨w.heap.size + 1, 2, none⟩ = some (.int .i64 bt) := keep_cell hb1 (keep_alloc (new_cell (by rw [World.size_alloc]) rfl))
  have b3 : w1.cell? ⟨w.heap.size + 1, 3, none⟩ = some (.int .i64 bp) := keep_cell hb1 (keep_alloc (new_cell (by rw [World.size_alloc]) rfl))
  have b4 : w1.cell? ⟨w.heap.size + 1, 4, none⟩ = some (.int .i64 bq) := keep_cell hb1 (keep_alloc (new_cell (by rw [World.size_alloc]) rfl))
  have b5 : w1.cell? ⟨w.heap.size + 1, 5, none⟩ = some (.string bkey) := keep_cell hb1 (keep_alloc (new_cell (by rw [World.size_alloc]) rfl))
  have b6 : w1.cell? ⟨w.heap.size + 1, 6, none⟩ = some (.bool bhb) := keep_cell hb1 (keep_alloc (new_cell (by rw [World.size_alloc]) rfl))
  have b7 : w1.cell? ⟨w.heap.size + 1, 7, none⟩ = some (.string bsb) := keep_cell hb1 (keep_alloc (new_cell (by rw [World.size_alloc]) rfl))
  have b8 : w1.cell? ⟨w.heap.size + 1, 8, none⟩ = some (.bool bha) := keep_cell hb1 (keep_alloc (new_cell (by rw [World.size_alloc]) rfl))
  have b9 : w1.cell? ⟨w.heap.size + 1, 9, none⟩ = some (.string bsa) := keep_cell hb1 (keep_alloc (new_cell (by rw [World.size_alloc]) rfl))
  have b10 : w1.cell? ⟨w.heap.size + 1, 10, none⟩ = some (.int .i64 bu) := keep_cell hb1 (keep_alloc (new_cell (by rw [World.size_alloc]) rfl))
  have v0 : w1.cell? ⟨w.heap.size + 1 + 1, 0, none⟩ = some (.bool vh) := keep_cell hb1 (new_cell (by rw [World.size_alloc, World.size_alloc]) rfl)
  have v1 : w1.cell? ⟨w.heap.size + 1 + 1, 1, none⟩ = some (.string vs) := keep_cell hb1 (new_cell (by rw [World.size_alloc, World.size_alloc]) rfl)
  go_wp2_with fail
  refine (KGb.out _).mono ?_
  rintro x w2 ⟨rfl, hb2⟩
  have a0 : w2.cell? ⟨w.heap.size, 0, none⟩ = some (.int .i64 ak) := keep_cell hb2 a0
  have a1 : w2.cell? ⟨w.heap.size, 1, none⟩ = some (.int .i64 ag) := keep_cell hb2 a1
  have a2 : w2.cell? ⟨w.heap.size, 2, none⟩ = some (.int .i64 ax) := keep_cell hb2 a2
  have a3 : w2.cell? ⟨w.heap.size, 3, none⟩ = some (.int .i64 ap) := keep_cell hb2 a3
  have a4 : w2.cell? ⟨w.heap.size, 4, none⟩ = some (.int .i64 aq) := keep_cell hb2 a4
  have a5 : w2.cell? ⟨w.heap.size, 5, none⟩ = some (.string akey) := keep_cell hb2 a5
  have a6 : w2.cell? ⟨w.heap.size, 6, none⟩ = some (.bool ahb) := keep_cell hb2 a6
  have a7 : w2.cell? ⟨w.heap.size, 7, none⟩ = some (.string asb) := keep_cell hb2 a7
  have a8 : w2.cell? ⟨w.heap.size, 8, none⟩ = some (.bool aha) := keep_cell hb2 a8
  have a9 : w2.cell? ⟨w.heap.size, 9, none⟩ = some (.string asa) := keep_cell hb2 a9
  have a10 : w2.cell? ⟨w.heap.size, 10, none⟩ = some (.int .i64 au) := keep_cell hb2 a10
  have b0 : w2.cell? ⟨w.heap.size + 1, 0, none⟩ = some (.int .i64 bk) := keep_cell hb2 b0
  have b1 : w2.cell? ⟨w.heap.size + 1, 1, none⟩ = some (.int .i64 bg) := keep_cell hb2 b1
  have b2 : w2.cell? ⟨w.heap.size + 1, 2, none⟩ = some (.int .i64 bt) := keep_cell hb2 b2
  have b3 : w2.cell? ⟨w.heap.size + 1, 3, none⟩ = some (.int .i64 bp) := keep_cell hb2 b3
  have b4 : w2.cell? ⟨w.heap.size + 1, 4, none⟩ = some (.int .i64 bq) := keep_cell hb2 b4
  have b5 : w2.cell? ⟨w.heap.size + 1, 5, none⟩ = some (.string bkey) := keep_cell hb2 b5
  have b6 : w2.cell? ⟨w.heap.size + 1, 6, none⟩ = some (.bool bhb) := keep_cell hb2 b6
  have b7 : w2.cell? ⟨w.heap.size + 1, 7, none⟩ = some (.string bsb) := keep_cell hb2 b7
  have b8 : w2.cell? ⟨w.heap.size + 1, 8, none⟩ = some (.bool bha) := keep_cell hb2 b8
  have b9 : w2.cell? ⟨w.heap.size + 1, 9, none⟩ = some (.string bsa) := keep_cell hb2 b9
  have b10 : w2.cell? ⟨w.heap.size + 1, 10, none⟩ = some (.int .i64 bu) := keep_cell hb2 b10
  have v0 : w2.cell? ⟨w.heap.size + 1 + 1, 0, none⟩ = some (.bool vh) := keep_cell hb2 v0
  have v1 : w2.cell? ⟨w.heap.size + 1 + 1, 1, none⟩ = some (.string vs) := keep_cell hb2 v1
  have hw2 : Below w.heap.size w w2 := bw_call hb2 hw1
  go_wp2_with fail
  refine (KA.out _ hw2).mono ?_
  rintro x w5 ⟨rfl, hb5⟩
  go_wp2
  go_ret
  exact ⟨rfl, bw_call hb5 hw2⟩
set_option maxHeartbeats 2000000 in
theorem rights_key (ak ag ax ap aq au : Int) (akey asb asa : ByteArray) (ahb aha : Bool) (bk bg bt bp bq bu : Int) (bkey bsb bsa : ByteArray) (bhb bha : Bool) (key vs : ByteArray) (vh : Bool) (w : World) (hn : NameAt w) (hGa : rcGreat akey asb asa = false) (hGb : rcGreat bkey bsb bsa = false) (hk : (100 : Int) < (key.size : Int)) :
    Calls Tryd.prog 3 #[.agg #[.int .i64 ak, .int .i64 ag, .int .i64 ax, .int .i64 ap, .int .i64 aq, .string akey, .bool ahb, .string asb, .bool aha, .string asa, .int .i64 au], .agg #[.int .i64 bk, .int .i64 bg, .int .i64 bt, .int .i64 bp, .int .i64 bq, .string bkey, .bool bhb, .string bsb, .bool bha, .string bsa, .int .i64 bu], .string key, .agg #[.bool vh, .string vs]] w fun e w' => e = .returned (.bool true) ∧ Below w.heap.size w w' := by
  have KA := Lib.hid (fun W (hW : Below w.heap.size w W) => awake_rc W (hn.below hW))
  have KGa := Lib.hid (fun W => great_rc ak ag ax ap aq au akey asb asa ahb aha W)
  have KGb := Lib.hid (fun W => great_rc bk bg bt bp bq bu bkey bsb bsa bhb bha W)
  rw [hGa] at KGa
  rw [hGb] at KGb
  clear hGa hGb hn
  go_enter Tryd.func3, Tryd.ntmps3
  go_wp2_with fail
  refine (KGa.out _).mono ?_
  rintro x w1 ⟨rfl, hb1⟩
  have hw1 : Below w.heap.size w w1 := bw_call hb1 (bw_alloc (bw_alloc (bw_alloc (Below.refl _ _))))
  have a0 : w1.cell? ⟨w.heap.size, 0, none⟩ = some (.int .i64 ak) := keep_cell hb1 (keep_alloc (keep_alloc (new_cell rfl rfl)))
  have a1 : w1.cell? ⟨w.heap.size, 1, none⟩ = some (.int .i64 ag) := keep_cell hb1 (keep_alloc (keep_alloc (new_cell rfl rfl)))
  have a2 : w1.cell? ⟨w.heap.size, 2, none⟩ = some (.int .i64 ax) := keep_cell hb1 (keep_alloc (keep_alloc (new_cell rfl rfl)))
  have a3 : w1.cell? ⟨w.heap.size, 3, none⟩ = some (.int .i64 ap) := keep_cell hb1 (keep_alloc (keep_alloc (new_cell rfl rfl)))
  have a4 : w1.cell? ⟨w.heap.size, 4, none⟩ = some (.int .i64 aq) := keep_cell hb1 (keep_alloc (keep_alloc (new_cell rfl rfl)))
  have a5 : w1.cell? ⟨w.heap.size, 5, none⟩ = some (.string akey) := keep_cell hb1 (keep_alloc (keep_alloc (new_cell rfl rfl)))
  have a6 : w1.cell? ⟨w.heap.size, 6, none⟩ = some (.bool ahb) := keep_cell hb1 (keep_alloc (keep_alloc (new_cell rfl rfl)))
  have a7 : w1.cell? ⟨w.heap.size, 7, none⟩ = some (.string asb) := keep_cell hb1 (keep_alloc (keep_alloc (new_cell rfl rfl)))
  have a8 : w1.cell? ⟨w.heap.size, 8, none⟩ = some (.bool aha) := keep_cell hb1 (keep_alloc (keep_alloc (new_cell rfl rfl)))
  have a9 : w1.cell? ⟨w.heap.size, 9, none⟩ = some (.string asa) := keep_cell hb1 (keep_alloc (keep_alloc (new_cell rfl rfl)))
  have a10 : w1.cell? ⟨w.heap.size, 10, none⟩ = some (.int .i64 au) := keep_cell hb1 (keep_alloc (keep_alloc (new_cell rfl rfl)))
  have b0 : w1.cell? ⟨w.heap.size + 1, 0, none⟩ = some (.int .i64 bk) := keep_cell hb1 (keep_alloc (new_cell (by rw [World.size_alloc]) rfl))
  have b1 : w1.cell? ⟨w.heap.size + 1, 1, none⟩ = some (.int .i64 bg) := keep_cell hb1 (keep_alloc (new_cell (by rw [World.size_alloc]) rfl))
  have b2 : w1.cell? ⟨w.heap.size + 1, 2, none⟩ = some (.int .i64 bt) := keep_cell hb1 (keep_alloc (new_cell (by rw [World.size_alloc]) rfl))
  have b3 : w1.cell? ⟨w.heap.size + 1, 3, none⟩ = some (.int .i64 bp) := keep_cell hb1 (keep_alloc (new_cell (by rw [World.size_alloc]) rfl))
  have b4 : w1.cell? ⟨w.heap.size + 1, 4, none⟩ = some (.int .i64 bq) := keep_cell hb1 (keep_alloc (new_cell (by rw [World.size_alloc]) rfl))
  have b5 : w1.cell? ⟨w.heap.size + 1, 5, none⟩ = some (.string bkey) := keep_cell hb1 (keep_alloc (new_cell (by rw [World.size_alloc]) rfl))
  have b6 : w1.cell? ⟨w.heap.size + 1, 6, none⟩ = some (.bool bhb) := keep_cell hb1 (keep_alloc (new_cell (by rw [World.size_alloc]) rfl))
  have b7 : w1.cell? ⟨w.heap.size + 1, 7, none⟩ = some (.string bsb) := keep_cell hb1 (keep_alloc (new_cell (by rw [World.size_alloc]) rfl))
  have b8 : w1.cell? ⟨w.heap.size + 1, 8, none⟩ = some (.bool bha) := keep_cell hb1 (keep_alloc (new_cell (by rw [World.size_alloc]) rfl))
  have b9 : w1.cell? ⟨w.heap.size + 1, 9, none⟩ = some (.string bsa) := keep_cell hb1 (keep_alloc (new_cell (by rw [World.size_alloc]) rfl))
  have b10 : w1.cell? ⟨w.heap.size + 1, 10, none⟩ = some (.int .i64 bu) := keep_cell hb1 (keep_alloc (new_cell (by rw [World.size_alloc]) rfl))
  have v0 : w1.cell? ⟨w.heap.size + 1 + 1, 0, none⟩ = some (.bool vh) := keep_cell hb1 (new_cell (by rw [World.size_alloc, World.size_alloc]) rfl)
  have v1 : w1.cell? ⟨w.heap.size + 1 + 1, 1, none⟩ = some (.string vs) := keep_cell hb1 (new_cell (by rw [World.size_alloc, World.size_alloc]) rfl)
  go_wp2_with fail
  refine (KGb.out _).mono ?_
  rintro x w2 ⟨rfl, hb2⟩
  have a0 : w2.cell? ⟨w.heap.size, 0, none⟩ = some (.int .i64 ak) := keep_cell hb2 a0
  have a1 : w2.cell? ⟨w.heap.size, 1, none⟩ = some (.int .i64 ag) := keep_cell hb2 a1
  have a2 : w2.cell? ⟨w.heap.size, 2, none⟩ = some (.int .i64 ax) := keep_cell hb2 a2
  have a3 : w2.cell? ⟨w.heap.size, 3, none⟩ = some (.int .i64 ap) := keep_cell hb2 a3
  have a4 : w2.cell? ⟨w.heap.size, 4, none⟩ = some (.int .i64 aq) := keep_cell hb2 a4
  have a5 : w2.cell? ⟨w.heap.size, 5, none⟩ = some (.string akey) := keep_cell hb2 a5
  have a6 : w2.cell? ⟨w.heap.size, 6, none⟩ = some (.bool ahb) := keep_cell hb2 a6
  have a7 : w2.cell? ⟨w.heap.size, 7, none⟩ = some (.string asb) := keep_cell hb2 a7
  have a8 : w2.cell? ⟨w.heap.size, 8, none⟩ = some (.bool aha) := keep_cell hb2 a8
  have a9 : w2.cell? ⟨w.heap.size, 9, none⟩ = some (.string asa) := keep_cell hb2 a9
  have a10 : w2.cell? ⟨w.heap.size, 10, none⟩ = some (.int .i64 au) := keep_cell hb2 a10
  have b0 : w2.cell? ⟨w.heap.size + 1, 0, none⟩ = some (.int .i64 bk) := keep_cell hb2 b0
  have b1 : w2.cell? ⟨w.heap.size + 1, 1, none⟩ = some (.int .i64 bg) := keep_cell hb2 b1
  have b2 : w2.cell? ⟨w.heap.size + 1, 2, none⟩ = some (.int .i64 bt) := keep_cell hb2 b2
  have b3 : w2.cell? ⟨w.heap.size + 1, 3, none⟩ = some (.int .i64 bp) := keep_cell hb2 b3
  have b4 : w2.cell? ⟨w.heap.size + 1, 4, none⟩ = some (.int .i64 bq) := keep_cell hb2 b4
  have b5 : w2.cell? ⟨w.heap.size + 1, 5, none⟩ = some (.string bkey) := keep_cell hb2 b5
  have b6 : w2.cell? ⟨w.heap.size + 1, 6, none⟩ = some (.bool bhb) := keep_cell hb2 b6
  have b7 : w2.cell? ⟨w.heap.size + 1, 7, none⟩ = some (.string bsb) := keep_cell hb2 b7
  have b8 : w2.cell? ⟨w.heap.size + 1, 8, none⟩ = some (.bool bha) := keep_cell hb2 b8
  have b9 : w2.cell? ⟨w.heap.size + 1, 9, none⟩ = some (.string bsa) := keep_cell hb2 b9
  have b10 : w2.cell? ⟨w.heap.size + 1, 10, none⟩ = some (.int .i64 bu) := keep_cell hb2 b10
  have v0 : w2.cell? ⟨w.heap.size + 1 + 1, 0, none⟩ = some (.bool vh) := keep_cell hb2 v0
  have v1 : w2.cell? ⟨w.heap.size + 1 + 1, 1, none⟩ = some (.string vs) := keep_cell hb2 v1
  have hw2 : Below w.heap.size w w2 := bw_call hb2 hw1
  go_wp2_with fail
  refine (KA.out _ hw2).mono ?_
  rintro x w5 ⟨rfl, hb5⟩
  go_wp2
  go_ret
  exact ⟨rfl, bw_call hb5 hw2⟩
set_option maxHeartbeats 2000000 in
theorem rights_val (ak ag ax ap aq au : Int) (akey asb asa : ByteArray) (ahb aha : Bool) (bk bg bt bp bq bu : Int) (bkey bsb bsa : ByteArray) (bhb bha : Bool) (key vs : ByteArray) (vh : Bool) (w : World) (hn : NameAt w) (hGa : rcGreat akey asb asa = false) (hGb : rcGreat bkey bsb bsa = false) (hk : (key.size : Int) ≤ 100) (hv : (100 : Int) < (vs.size : Int)) :
    Calls Tryd.prog 3 #[.agg #[.int .i64 ak, .int .i64 ag, .int .i64 ax, .int .i64 ap, .int .i64 aq, .string akey, .bool ahb, .string asb, .bool aha, .string asa, .int .i64 au], .agg #[.int .i64 bk, .int .i64 bg, .int .i64 bt, .int .i64 bp, .int .i64 bq, .string bkey, .bool bhb, .string bsb, .bool bha, .string bsa, .int .i64 bu], .string key, .agg #[.bool vh, .string vs]] w fun e w' => e = .returned (.bool true) ∧ Below w.heap.size w w' := by
  have KA := Lib.hid (fun W (hW : Below w.heap.size w W) => awake_rc W (hn.below hW))
  have KGa := Lib.hid (fun W => great_rc ak ag ax ap aq au akey asb asa ahb aha W)
  have KGb := Lib.hid (fun W => great_rc bk bg bt bp bq bu bkey bsb bsa bhb bha W)
  rw [hGa] at KGa
  rw [hGb] at KGb
  clear hGa hGb hn
  go_enter Tryd.func3, Tryd.ntmps3
  go_wp2_with fail
  refine (KGa.out _).mono ?_
  rintro x w1 ⟨rfl, hb1⟩
  have hw1 : Below w.heap.size w w1 := bw_call hb1 (bw_alloc (bw_alloc (bw_alloc (Below.refl _ _))))
  have a0 : w1.cell? ⟨w.heap.size, 0, none⟩ = some (.int .i64 ak) := keep_cell hb1 (keep_alloc (keep_alloc (new_cell rfl rfl)))
  have a1 : w1.cell? ⟨w.heap.size, 1, none⟩ = some (.int .i64 ag) := keep_cell hb1 (keep_alloc (keep_alloc (new_cell rfl rfl)))
  have a2 : w1.cell? ⟨w.heap.size, 2, none⟩ = some (.int .i64 ax) := keep_cell hb1 (keep_alloc (keep_alloc (new_cell rfl rfl)))
  have a3 : w1.cell? ⟨w.heap.size, 3, none⟩ = some (.int .i64 ap) := keep_cell hb1 (keep_alloc (keep_alloc (new_cell rfl rfl)))
  have a4 : w1.cell? ⟨w.heap.size, 4, none⟩ = some (.int .i64 aq) := keep_cell hb1 (keep_alloc (keep_alloc (new_cell rfl rfl)))
  have a5 : w1.cell? ⟨w.heap.size, 5, none⟩ = some (.string akey) := keep_cell hb1 (keep_alloc (keep_alloc (new_cell rfl rfl)))
  have a6 : w1.cell? ⟨w.heap.size, 6, none⟩ = some (.bool ahb) := keep_cell hb1 (keep_alloc (keep_alloc (new_cell rfl rfl)))
  have a7 : w1.cell? ⟨w.heap.size, 7, none⟩ = some (.string asb) := keep_cell hb1 (keep_alloc (keep_alloc (new_cell rfl rfl)))
  have a8 : w1.cell? ⟨w.heap.size, 8, none⟩ = some (.bool aha) := keep_cell hb1 (keep_alloc (keep_alloc (new_cell rfl rfl)))
  have a9 : w1.cell? ⟨w.heap.size, 9, none⟩ = some (.string asa) := keep_cell hb1 (keep_alloc (keep_alloc (new_cell rfl rfl)))
  have a10 : w1.cell? ⟨w.heap.size, 10, none⟩ = some (.int .i64 au) := keep_cell hb1 (keep_alloc (keep_alloc (new_cell rfl rfl)))
  have b0 : w1.cell? ⟨w.heap.size + 1, 0, none⟩ = some (.int .i64 bk) := keep_cell hb1 (keep_alloc (new_cell (by rw [World.size_alloc]) rfl))
  have b1 : w1.cell? ⟨w.heap.size + 1, 1, none⟩ = some (.int .i64 bg) := keep_cell hb1 (keep_alloc (new_cell (by rw [World.size_alloc]) rfl))
  have b2 : w1.cell? ⟨w.heap.size + 1, 2, none⟩ = some (.int .i64 bt) := keep_cell hb1 (keep_alloc (new_cell (by rw [World.size_alloc]) rfl))
  have b3 : w1.cell? ⟨w.heap.size + 1, 3, none⟩ = some (.int .i64 bp) := keep_cell hb1 (keep_alloc (new_cell (by rw [World.size_alloc]) rfl))
  have b4 : w1.cell? ⟨w.heap.size + 1, 4, none⟩ = some (.int .i64 bq) := keep_cell hb1 (keep_alloc (new_cell (by rw [World.size_alloc]) rfl))
  have b5 : w1.cell? ⟨w.heap.size + 1, 5, none⟩ = some (.string bkey) := keep_cell hb1 (keep_alloc (new_cell (by rw [World.size_alloc]) rfl))
  have b6 : w1.cell? ⟨w.heap.size + 1, 6, none⟩ = some (.bool bhb) := keep_cell hb1 (keep_alloc (new_cell (by rw [World.size_alloc]) rfl))
  have b7 : w1.cell? ⟨w.heap.size + 1, 7, none⟩ = some (.string bsb) := keep_cell hb1 (keep_alloc (new_cell (by rw [World.size_alloc]) rfl))
  have b8 : w1.cell? ⟨w.heap.size + 1, 8, none⟩ = some (.bool bha) := keep_cell hb1 (keep_alloc (new_cell (by rw [World.size_alloc]) rfl))
  have b9 : w1.cell? ⟨w.heap.size + 1, 9, none⟩ = some (.string bsa) := keep_cell hb1 (keep_alloc (new_cell (by rw [World.size_alloc]) rfl))
  have b10 : w1.cell? ⟨w.heap.size + 1, 10, none⟩ = some (.int .i64 bu) := keep_cell hb1 (keep_alloc (new_cell (by rw [World.size_alloc]) rfl))
  have v0 : w1.cell? ⟨w.heap.size + 1 + 1, 0, none⟩ = some (.bool vh) := keep_cell hb1 (new_cell (by rw [World.size_alloc, World.size_alloc]) rfl)
  have v1 : w1.cell? ⟨w.heap.size + 1 + 1, 1, none⟩ = some (.string vs) := keep_cell hb1 (new_cell (by rw [World.size_alloc, World.size_alloc]) rfl)
  go_wp2_with fail
  refine (KGb.out _).mono ?_
  rintro x w2 ⟨rfl, hb2⟩
  have a0 : w2.cell? ⟨w.heap.size, 0, none⟩ = some (.int .i64 ak) := keep_cell hb2 a0
  have a1 : w2.cell? ⟨w.heap.size, 1, none⟩ = some (.int .i64 ag) := keep_cell hb2 a1
  have a2 : w2.cell? ⟨w.heap.size, 2, none⟩ = some (.int .i64 ax) := keep_cell hb2 a2
  have a3 : w2.cell? ⟨w.heap.size, 3, none⟩ = some (.int .i64 ap) := keep_cell hb2 a3
  have a4 : w2.cell? ⟨w.heap.size, 4, none⟩ = some (.int .i64 aq) := keep_cell hb2 a4
  have a5 : w2.cell? ⟨w.heap.size, 5, none⟩ = some (.string akey) := keep_cell hb2 a5
  have a6 : w2.cell? ⟨w.heap.size, 6, none⟩ = some (.bool ahb) := keep_cell hb2 a6
  have a7 : w2.cell? ⟨w.heap.size, 7, none⟩ = some (.string asb) := keep_cell hb2 a7
  have a8 : w2.cell? ⟨w.heap.size, 8, none⟩ = some (.bool aha) := keep_cell hb2 a8
  have a9 : w2.cell? ⟨w.heap.size, 9, none⟩ = some (.string asa) := keep_cell hb2 a9
  have a10 : w2.cell? ⟨w.heap.size, 10, none⟩ = some (.int .i64 au) := keep_cell hb2 a10
  have b0 : w2.cell? ⟨w.heap.size + 1, 0, none⟩ = some (.int .i64 bk) := keep_cell hb2 b0
  have b1 : w2.cell? ⟨w.heap.size + 1, 1, none⟩ = some (.int .i64 bg) := keep_cell hb2 b1
  have b2 : w2.cell? ⟨w.heap.size + 1, 2, none⟩ = some (.int .i64 bt) := keep_cell hb2 b2
  have b3 : w2.cell? ⟨w.heap.size + 1, 3, none⟩ = some (.int .i64 bp) := keep_cell hb2 b3
  have b4 : w2.cell? ⟨w.heap.size + 1, 4, none⟩ = some (.int .i64 bq) := keep_cell hb2 b4
  have b5 : w2.cell? ⟨w.heap.size + 1, 5, none⟩ = some (.string bkey) := keep_cell hb2 b5
  have b6 : w2.cell? ⟨w.heap.size + 1, 6, none⟩ = some (.bool bhb) := keep_cell hb2 b6
  have b7 : w2.cell? ⟨w.heap.size + 1, 7, none⟩ = some (.string bsb) := keep_cell hb2 b7
  have b8 : w2.cell? ⟨w.heap.size + 1, 8, none⟩ = some (.bool bha) := keep_cell hb2 b8
  have b9 : w2.cell? ⟨w.heap.size + 1, 9, none⟩ = some (.string bsa) := keep_cell hb2 b9
  have b10 : w2.cell? ⟨w.heap.size + 1, 10, none⟩ = some (.int .i64 bu) := keep_cell hb2 b10
  have v0 : w2.cell? ⟨w.heap.size + 1 + 1, 0, none⟩ = some (.bool vh) := keep_cell hb2 v0
  have v1 : w2.cell? ⟨w.heap.size + 1 + 1, 1, none⟩ = some (.string vs) := keep_cell hb2 v1
  have hw2 : Below w.heap.size w w2 := bw_call hb2 hw1
  go_wp2_with fail
  refine (KA.out _ hw2).mono ?_
  rintro x w5 ⟨rfl, hb5⟩
  go_wp2
  go_ret
  exact ⟨rfl, bw_call hb5 hw2⟩
end Go.Proofs.YtbljeagjlmdlhaaDoor
