/-
  TxnNone: the walk.
-/
import Derived.Test.YtophbefmlfieeaaTxWake
namespace Go.Proofs.Ytophbefmlfieeaa
open Go.RowKit
set_option maxRecDepth 100000 in
set_option maxHeartbeats 4000000 in
theorem txnNone_great (id k g t p pg u : Int) (key sb sa : ByteArray) (hb ha : Bool) (W : World) (h1 : ¬ (key.size ≤ 100 ∧ sb.size ≤ 100 ∧ sa.size ≤ 100)) :
    Calls Try.prog 5 #[.int .i64 id, .agg #[.int .i64 k, .int .i64 g, .int .i64 t, .int .i64 p, .int .i64 pg, .string key, .bool hb, .string sb, .bool ha, .string sa, .int .i64 u]] W fun e w' => e = .returned (.bool true) ∧ Below W.heap.size W w' := by
  have KG := Lib.hid (fun X q (h : R11 X q ⟨k, g, t, p, pg, key, hb, sb, ha, sa, u⟩) => great17_yes h h1)
  have KA := Lib.hid awake17_any
  have hb0 := (Below.refl W.heap.size W).alloc (Nat.le_refl _) (.cells #[.int .i64 k, .int .i64 g, .int .i64 t, .int .i64 p, .int .i64 pg, .string key, .bool hb, .string sb, .bool ha, .string sa, .int .i64 u] 38)
  have Q0 : Hid (R11 (W.alloc (.cells #[.int .i64 k, .int .i64 g, .int .i64 t, .int .i64 p, .int .i64 pg, .string key, .bool hb, .string sb, .bool ha, .string sa, .int .i64 u] 38)) W.heap.size ⟨k, g, t, p, pg, key, hb, sb, ha, sa, u⟩) := R11.new W ⟨k, g, t, p, pg, key, hb, sb, ha, sa, u⟩ 38
  have B0 := Lib.hid hb0
  clear hb0 h1
  go_enter Try.func5, Try.ntmps5
  go_upto_region 1 with fail
  generalize W.alloc (.cells #[.int .i64 k, .int .i64 g, .int .i64 t, .int .i64 p, .int .i64 pg, .string key, .bool hb, .string sb, .bool ha, .string sa, .int .i64 u] 38) = Y at *
  obtain ⟨c0, c1, c2, c3, c4, c5, c6, c7, c8, c9, c10⟩ := Q0.out.all
  have hb1 := (Below.refl Y.heap.size Y).alloc (Nat.le_refl _) (.cells #[.int .i64 k, .int .i64 g, .int .i64 t, .int .i64 p, .int .i64 pg, .string key, .bool hb, .string sb, .bool ha, .string sa, .int .i64 u] 38)
  have Q1 := Lib.hid (Q0.out.below hb1)
  have B1 := Lib.hid (B0.out.trans (hb1.mono B0.out.size))
  have KG1 := Lib.hid (KG.out _ _ (R11.new Y ⟨k, g, t, p, pg, key, hb, sb, ha, sa, u⟩ 38))
  clear hb1 Q0 B0 KG
  go_wp2_with fail
  refine KG1.out.mono ?_
  rintro x w1 ⟨rfl, hb2⟩
  have Q2 := Lib.hid (Q1.out.below hb2)
  have B2 := Lib.hid (B1.out.trans (hb2.mono B1.out.size))
  clear c0 c1 c2 c3 c4 c5 c6 c7 c8 c9 c10 hb2 Q1 B1 KG1
  go_wp2_with fail
  refine (KA.out _).mono ?_
  rintro x w2 ⟨rfl, hb3⟩
  have B3 := Lib.hid (B2.out.trans (hb3.mono B2.out.size))
  clear hb3 B2 Q2 KA
  go_wp2
  go_ret
  exact ⟨rfl, B3.out⟩
set_option maxRecDepth 100000 in
set_option maxHeartbeats 4000000 in
theorem txnNone_small (id k g t p pg u : Int) (key sb sa : ByteArray) (hb ha : Bool) (W : World) (h1 : key.size ≤ 100 ∧ sb.size ≤ 100 ∧ sa.size ≤ 100) :
    Calls Try.prog 5 #[.int .i64 id, .agg #[.int .i64 k, .int .i64 g, .int .i64 t, .int .i64 p, .int .i64 pg, .string key, .bool hb, .string sb, .bool ha, .string sa, .int .i64 u]] W fun e w' => e = .returned (.bool true) ∧ Below W.heap.size W w' := by
  have KG := Lib.hid (fun X q (h : R11 X q ⟨k, g, t, p, pg, key, hb, sb, ha, sa, u⟩) => great17_no h h1.1 h1.2.1 h1.2.2)
  have KA := Lib.hid awake17_any
  have hb0 := (Below.refl W.heap.size W).alloc (Nat.le_refl _) (.cells #[.int .i64 k, .int .i64 g, .int .i64 t, .int .i64 p, .int .i64 pg, .string key, .bool hb, .string sb, .bool ha, .string sa, .int .i64 u] 38)
  have Q0 : Hid (R11 (W.alloc (.cells #[.int .i64 k, .int .i64 g, .int .i64 t, .int .i64 p, .int .i64 pg, .string key, .bool hb, .string sb, .bool ha, .string sa, .int .i64 u] 38)) W.heap.size ⟨k, g, t, p, pg, key, hb, sb, ha, sa, u⟩) := R11.new W ⟨k, g, t, p, pg, key, hb, sb, ha, sa, u⟩ 38
  have B0 := Lib.hid hb0
  clear hb0 h1
  go_enter Try.func5, Try.ntmps5
  go_upto_region 1 with fail
  generalize W.alloc (.cells #[.int .i64 k, .int .i64 g, .int .i64 t, .int .i64 p, .int .i64 pg, .string key, .bool hb, .string sb, .bool ha, .string sa, .int .i64 u] 38) = Y at *
  obtain ⟨c0, c1, c2, c3, c4, c5, c6, c7, c8, c9, c10⟩ := Q0.out.all
  have hb1 := (Below.refl Y.heap.size Y).alloc (Nat.le_refl _) (.cells #[.int .i64 k, .int .i64 g, .int .i64 t, .int .i64 p, .int .i64 pg, .string key, .bool hb, .string sb, .bool ha, .string sa, .int .i64 u] 38)
  have Q1 := Lib.hid (Q0.out.below hb1)
  have B1 := Lib.hid (B0.out.trans (hb1.mono B0.out.size))
  have KG1 := Lib.hid (KG.out _ _ (R11.new Y ⟨k, g, t, p, pg, key, hb, sb, ha, sa, u⟩ 38))
  clear hb1 Q0 B0 KG
  go_wp2_with fail
  refine KG1.out.mono ?_
  rintro x w1 ⟨rfl, hb2⟩
  have Q2 := Lib.hid (Q1.out.below hb2)
  have B2 := Lib.hid (B1.out.trans (hb2.mono B1.out.size))
  clear c0 c1 c2 c3 c4 c5 c6 c7 c8 c9 c10 hb2 Q1 B1 KG1
  have KT := Lib.hid (tget_nil id w1)
  go_wp2_with fail
  refine KT.out.mono ?_
  rintro x w2 ⟨rfl, hb3⟩
  have Q3 := Lib.hid (Q2.out.below hb3)
  have B3 := Lib.hid (B2.out.trans (hb3.mono B2.out.size))
  clear hb3 Q2 B2 KT
  have hba := (Below.refl w2.heap.size w2).alloc (Nat.le_refl _) (.cells #[.int .i64 0, .int .i64 0, .int .i64 0, .int .i64 0, .int .i64 0, .slice none 0 0, .slice none 0 0] 56)
  have x0 : (w2.alloc (.cells #[.int .i64 0, .int .i64 0, .int .i64 0, .int .i64 0, .int .i64 0, .slice none 0 0, .slice none 0 0] 56)).cell? ⟨w2.heap.size, 0, none⟩ = some (.int .i64 0) := new_cell rfl rfl
  have Q4 := Lib.hid (Q3.out.below hba)
  have B4 := Lib.hid (B3.out.trans (hba.mono B3.out.size))
  have X4 := Lib.hid x0
  clear hba Q3 B3 x0
  go_upto_region 5 with fail
  generalize w2.alloc (.cells #[.int .i64 0, .int .i64 0, .int .i64 0, .int .i64 0, .int .i64 0, .slice none 0 0, .slice none 0 0] 56) = w3 at *
  generalize w2.heap.size = bx at *
  have KT := Lib.hid (tback_nil id none 0 0 w3)
  go_wp2_with fail
  refine KT.out.mono ?_
  rintro x w4 ⟨rfl, rfl⟩
  clear KT
  have KT := Lib.hid (toldest_nil w3)
  go_wp2_with fail
  refine KT.out.mono ?_
  rintro x w4 ⟨rfl, rfl⟩
  clear KT
  obtain ⟨c0, c1, c2, c3, c4, c5, c6, c7, c8, c9, c10⟩ := Q4.out.all
  have hba := (Below.refl w3.heap.size w3).alloc (Nat.le_refl _) (.cells #[.int .i64 k, .int .i64 g, .int .i64 t, .int .i64 p, .int .i64 pg, .string key, .bool hb, .string sb, .bool ha, .string sa, .int .i64 u] 38)
  have KT := Lib.hid (tnote_nil id (some ⟨w3.heap.size, 0, none⟩) 1 1 (w3.alloc (.cells #[.int .i64 k, .int .i64 g, .int .i64 t, .int .i64 p, .int .i64 pg, .string key, .bool hb, .string sb, .bool ha, .string sa, .int .i64 u] 38)))
  have B5 := Lib.hid (B4.out.trans (hba.mono B4.out.size))
  have X5 := Lib.hid (keep_cell hba X4.out)
  clear hba B4 X4 Q4
  go_wp2_with fail
  refine KT.out.mono ?_
  rintro x w5 ⟨rfl, hb5⟩
  have B6 := Lib.hid (B5.out.trans (hb5.mono B5.out.size))
  have x0 := keep_cell hb5 X5.out
  clear KT hb5 B5 X5 c0 c1 c2 c3 c4 c5 c6 c7 c8 c9 c10
  have KT := Lib.hid (tIds_nil w5)
  go_wp2_with fail
  refine KT.out.mono ?_
  rintro x w6 ⟨rfl, hb5⟩
  have B7 := Lib.hid (B6.out.trans (hb5.mono B6.out.size))
  clear KT hb5 B6 x0
  have KT := Lib.hid (tsettled_nil id w6)
  go_wp2_with fail
  refine KT.out.mono ?_
  rintro x w7 ⟨rfl, hb5⟩
  have B8 := Lib.hid (B7.out.trans (hb5.mono B7.out.size))
  clear KT hb5 B7
  have hba := (Below.refl w7.heap.size w7).alloc (Nat.le_refl _) (.cells #[.int .i64 id] 3)
  have KT := Lib.hid (tdrop_nil (some ⟨w7.heap.size, 0, none⟩) 1 1 (w7.alloc (.cells #[.int .i64 id] 3)))
  have B9 := Lib.hid (B8.out.trans (hba.mono B8.out.size))
  clear hba B8
  go_wp2_with fail
  refine KT.out.mono ?_
  rintro x w8 ⟨rfl, hw⟩
  rw [hw] at B9
  clear KT hw
  go_wp2_with fail
  refine (KA.out _).mono ?_
  rintro x w9 ⟨rfl, hb5⟩
  have B10 := Lib.hid (B9.out.trans (hb5.mono B9.out.size))
  clear hb5 B9 KA
  go_wp2
  go_ret
  exact ⟨rfl, B10.out⟩
theorem txnNone_walk (id k g t p pg u : Int) (key sb sa : ByteArray) (hb ha : Bool) (W : World) :
    Calls Try.prog 5 #[.int .i64 id, .agg #[.int .i64 k, .int .i64 g, .int .i64 t, .int .i64 p, .int .i64 pg, .string key, .bool hb, .string sb, .bool ha, .string sa, .int .i64 u]] W fun e w' => e = .returned (.bool true) ∧ Below W.heap.size W w' := by
  by_cases h : key.size ≤ 100 ∧ sb.size ≤ 100 ∧ sa.size ≤ 100
  · exact txnNone_small id k g t p pg u key sb sa hb ha W h
  · exact txnNone_great id k g t p pg u key sb sa hb ha W h
end Go.Proofs.Ytophbefmlfieeaa
