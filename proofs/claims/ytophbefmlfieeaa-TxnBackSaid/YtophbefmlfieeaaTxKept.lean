/-
  THE CONTRACT of txn's kept: a record with texts of its own is the same record.
-/
import Derived.Test.YtophbefmlfieeaaTxRow
namespace Go.Proofs.Ytophbefmlfieeaa
open Go.RowKit
/-- A record's eleven cells. -/
structure R11 (W : World) (q : Nat) (r : Rc) : Prop where
  at' : ∀ j u, r.cells[j]? = some u → W.cell? ⟨q, j, none⟩ = some u
  fz : ∀ i, W.frozen? ⟨q, i, none⟩ = false
theorem R11.below {W X : World} {q : Nat} {r : Rc} (h : R11 W q r) (hb : Below W.heap.size W X) : R11 X q r :=
  ⟨fun j u hj => keep_cell hb (h.at' j u hj), fun i => (hb.frozen (p := ⟨q, i, none⟩) (show q < W.heap.size from block_lt (p := ⟨q, 0, none⟩) (h.at' 0 _ rfl))).trans (h.fz i)⟩
theorem R11.put {W : World} {q : Nat} {r : Rc} (h : R11 W q r) (i : Nat) (v : Value) (hv : r.cells[i]? = some v) : R11 (W.setCell ⟨q, i, none⟩ v) q r :=
  ⟨fun j u hj => by
    by_cases e : i = j
    · subst e
      rw [World.cell?_setCell_same _ _ _ (h.at' i u hj)]
      rw [hj] at hv; exact hv.symm
    · rw [World.cell?_setCell_other _ _ _ _ (fun x => by injection x with _ x; exact e x)]; exact h.at' j u hj,
   fun j => by rw [World.frozen?_setCell]; exact h.fz j⟩
theorem R11.other {W : World} {q b i : Nat} {u : Value} {r : Rc} (h : R11 W q r) (hb : b ≠ q) : R11 (W.setCell ⟨b, i, none⟩ u) q r :=
  ⟨fun j v hj => by rw [World.cell?_setCell_other _ _ _ _ (fun x => by injection x with x _; exact hb x)]; exact h.at' j v hj, fun j => by rw [World.frozen?_setCell]; exact h.fz j⟩
theorem R11.all {W : World} {q : Nat} {k g t p pg u : Int} {key sb sa : ByteArray} {hb ha : Bool} (h : R11 W q ⟨k, g, t, p, pg, key, hb, sb, ha, sa, u⟩) :
    W.cell? ⟨q, 0, none⟩ = some (.int .i64 k) ∧ W.cell? ⟨q, 1, none⟩ = some (.int .i64 g) ∧ W.cell? ⟨q, 2, none⟩ = some (.int .i64 t) ∧ W.cell? ⟨q, 3, none⟩ = some (.int .i64 p) ∧ W.cell? ⟨q, 4, none⟩ = some (.int .i64 pg) ∧ W.cell? ⟨q, 5, none⟩ = some (.string key) ∧
    W.cell? ⟨q, 6, none⟩ = some (.bool hb) ∧ W.cell? ⟨q, 7, none⟩ = some (.string sb) ∧ W.cell? ⟨q, 8, none⟩ = some (.bool ha) ∧ W.cell? ⟨q, 9, none⟩ = some (.string sa) ∧ W.cell? ⟨q, 10, none⟩ = some (.int .i64 u) :=
  ⟨h.at' 0 _ rfl, h.at' 1 _ rfl, h.at' 2 _ rfl, h.at' 3 _ rfl, h.at' 4 _ rfl, h.at' 5 _ rfl, h.at' 6 _ rfl, h.at' 7 _ rfl, h.at' 8 _ rfl, h.at' 9 _ rfl, h.at' 10 _ rfl⟩
theorem R11.new (W : World) (r : Rc) (T : TypeId) : R11 (W.alloc (.cells r.cells.toArray T)) W.heap.size r :=
  ⟨fun j u hj => new_cell rfl (by simpa using hj), fun _ => World.frozen?_alloc_at _ _ _ _ rfl⟩
set_option maxRecDepth 100000 in
set_option maxHeartbeats 4000000 in
theorem kept_any (k g t p pg u : Int) (key sb sa : ByteArray) (hb ha : Bool) (w : World) (h1 : key.size ≤ 281474976710656) (h2 : sb.size ≤ 281474976710656) (h3 : sa.size ≤ 281474976710656) :
    Calls Try.prog 66 #[.agg #[.int .i64 k, .int .i64 g, .int .i64 t, .int .i64 p, .int .i64 pg, .string key, .bool hb, .string sb, .bool ha, .string sa, .int .i64 u]] w fun x w' => x = .returned (.agg #[.int .i64 k, .int .i64 g, .int .i64 t, .int .i64 p, .int .i64 pg, .string key, .bool hb, .string sb, .bool ha, .string sa, .int .i64 u]) ∧ Below w.heap.size w w' := by
  have K1 := Lib.hid (fun W => clone_str key W h1)
  have K2 := Lib.hid (fun W => clone_str sb W h2)
  have K3 := Lib.hid (fun W => clone_str sa W h3)
  clear h1 h2 h3
  have hr := R11.new w ⟨k, g, t, p, pg, key, hb, sb, ha, sa, u⟩ 38
  have hb0 := (Below.refl w.heap.size w).alloc (Nat.le_refl _) (.cells #[.int .i64 k, .int .i64 g, .int .i64 t, .int .i64 p, .int .i64 pg, .string key, .bool hb, .string sb, .bool ha, .string sa, .int .i64 u] 38)
  have hs0 : (w.alloc (.cells #[.int .i64 k, .int .i64 g, .int .i64 t, .int .i64 p, .int .i64 pg, .string key, .bool hb, .string sb, .bool ha, .string sa, .int .i64 u] 38)).heap.size = w.heap.size + 1 := World.size_alloc _ _
  have hb1 := hb0.alloc hb0.size (.cells #[.int .i64 0, .int .i64 0, .int .i64 0, .int .i64 0, .int .i64 0, .string ⟨#[]⟩, .bool false, .string ⟨#[]⟩, .bool false, .string ⟨#[]⟩, .int .i64 0] 38)
  have hbn := (Below.refl (w.alloc (.cells #[.int .i64 k, .int .i64 g, .int .i64 t, .int .i64 p, .int .i64 pg, .string key, .bool hb, .string sb, .bool ha, .string sa, .int .i64 u] 38)).heap.size (w.alloc (.cells #[.int .i64 k, .int .i64 g, .int .i64 t, .int .i64 p, .int .i64 pg, .string key, .bool hb, .string sb, .bool ha, .string sa, .int .i64 u] 38))).alloc (Nat.le_refl _) (.cells #[.int .i64 0, .int .i64 0, .int .i64 0, .int .i64 0, .int .i64 0, .string ⟨#[]⟩, .bool false, .string ⟨#[]⟩, .bool false, .string ⟨#[]⟩, .int .i64 0] 38)
  have hz := R11.new (w.alloc (.cells #[.int .i64 k, .int .i64 g, .int .i64 t, .int .i64 p, .int .i64 pg, .string key, .bool hb, .string sb, .bool ha, .string sa, .int .i64 u] 38)) noRc 38
  rw [hs0] at hz
  have R0 := Lib.hid (hr.below hbn)
  have Z0 : Hid (R11 ((w.alloc (.cells #[.int .i64 k, .int .i64 g, .int .i64 t, .int .i64 p, .int .i64 pg, .string key, .bool hb, .string sb, .bool ha, .string sa, .int .i64 u] 38)).alloc (.cells #[.int .i64 0, .int .i64 0, .int .i64 0, .int .i64 0, .int .i64 0, .string ⟨#[]⟩, .bool false, .string ⟨#[]⟩, .bool false, .string ⟨#[]⟩, .int .i64 0] 38)) (w.heap.size + 1) noRc) := hz
  have B0 := Lib.hid hb1
  clear hr hb0 hs0 hb1 hbn hz
  go_enter Try.func66, Try.ntmps66
  go_upto_region 1 with fail
  have hne : w.heap.size ≠ w.heap.size + 1 := by omega
  have hqw : w.heap.size ≤ w.heap.size := Nat.le_refl _
  have hqz : w.heap.size ≤ w.heap.size + 1 := by omega
  generalize (w.alloc (.cells #[.int .i64 k, .int .i64 g, .int .i64 t, .int .i64 p, .int .i64 pg, .string key, .bool hb, .string sb, .bool ha, .string sa, .int .i64 u] 38)).alloc (.cells #[.int .i64 0, .int .i64 0, .int .i64 0, .int .i64 0, .int .i64 0, .string ⟨#[]⟩, .bool false, .string ⟨#[]⟩, .bool false, .string ⟨#[]⟩, .int .i64 0] 38) = Y at *
  generalize w.heap.size + 1 = z at *
  obtain ⟨c0, c1, c2, c3, c4, c5, c6, c7, c8, c9, c10⟩ := R0.out.all
  have cf := R0.out.fz
  go_wp2_with fail
  refine (K1.out _).mono ?_
  rintro x w1 ⟨rfl, hb1⟩
  have R1 := Lib.hid ((R0.out.below hb1).put 5 _ rfl)
  have Z1 := Lib.hid ((Z0.out.below hb1).other (i := 5) (u := .string key) hne)
  have B1 := Lib.hid ((B0.out.trans (hb1.mono B0.out.size)).setCell (p := ⟨w.heap.size, 5, none⟩) hqw (.string key))
  obtain ⟨x0, x1, x2, x3, x4, x5, x6, x7, x8, x9, x10⟩ := (R0.out.below hb1).all
  have xf := (R0.out.below hb1).fz
  clear hb1 c0 c1 c2 c3 c4 c5 c6 c7 c8 c9 c10 cf
  go_upto_region 2 with fail
  generalize w1.setCell ⟨w.heap.size, 5, none⟩ (.string key) = Y1 at *
  clear x0 x1 x2 x3 x4 x5 x6 x7 x8 x9 x10 xf
  obtain ⟨c0, c1, c2, c3, c4, c5, c6, c7, c8, c9, c10⟩ := R1.out.all
  have cf := R1.out.fz
  go_wp2_with fail
  refine (K2.out _).mono ?_
  rintro x w2 ⟨rfl, hb2⟩
  have R2 := Lib.hid ((R1.out.below hb2).put 7 _ rfl)
  have Z2 := Lib.hid ((Z1.out.below hb2).other (i := 7) (u := .string sb) hne)
  have B2 := Lib.hid ((B1.out.trans (hb2.mono B1.out.size)).setCell (p := ⟨w.heap.size, 7, none⟩) hqw (.string sb))
  obtain ⟨x0, x1, x2, x3, x4, x5, x6, x7, x8, x9, x10⟩ := (R1.out.below hb2).all
  have xf := (R1.out.below hb2).fz
  clear hb2 c0 c1 c2 c3 c4 c5 c6 c7 c8 c9 c10 cf
  go_upto_region 3 with fail
  generalize w2.setCell ⟨w.heap.size, 7, none⟩ (.string sb) = Y2 at *
  clear x0 x1 x2 x3 x4 x5 x6 x7 x8 x9 x10 xf
  obtain ⟨c0, c1, c2, c3, c4, c5, c6, c7, c8, c9, c10⟩ := R2.out.all
  have cf := R2.out.fz
  go_wp2_with fail
  refine (K3.out _).mono ?_
  rintro x w3 ⟨rfl, hb3⟩
  have R3 := Lib.hid ((R2.out.below hb3).put 9 _ rfl)
  have Z3 := Lib.hid ((Z2.out.below hb3).other (i := 9) (u := .string sa) hne)
  have B3 := Lib.hid ((B2.out.trans (hb3.mono B2.out.size)).setCell (p := ⟨w.heap.size, 9, none⟩) hqw (.string sa))
  obtain ⟨x0, x1, x2, x3, x4, x5, x6, x7, x8, x9, x10⟩ := (R2.out.below hb3).all
  have xf := (R2.out.below hb3).fz
  clear hb3 c0 c1 c2 c3 c4 c5 c6 c7 c8 c9 c10 cf
  go_upto_region 4 with fail
  generalize w3.setCell ⟨w.heap.size, 9, none⟩ (.string sa) = Y3 at *
  clear x0 x1 x2 x3 x4 x5 x6 x7 x8 x9 x10 xf
  obtain ⟨c0, c1, c2, c3, c4, c5, c6, c7, c8, c9, c10⟩ := R3.out.all
  have cf := R3.out.fz
  obtain ⟨z0, z1, z2, z3, z4, z5, z6, z7, z8, z9, z10⟩ := Z3.out.all
  have zf := Z3.out.fz
  have HB := Lib.hid B3.out
  have hzw := hqz
  go_wp2
  refine bodyPost_ret (v := .agg #[.int .i64 k, .int .i64 g, .int .i64 t, .int .i64 p, .int .i64 pg, .string key, .bool hb, .string sb, .bool ha, .string sa, .int .i64 u]) ?_ rfl ⟨rfl, ?_⟩
  · simp [results, Try.results66, go_sem, z0, z1, z2, z3, z4, z5, z6, z7, z8, z9, z10]
  · exact ((((((((((HB.out.setCell hzw _).setCell hzw _).setCell hzw _).setCell hzw _).setCell hzw _).setCell hzw _).setCell hzw _).setCell hzw _).setCell hzw _).setCell hzw _).setCell hzw _
end Go.Proofs.Ytophbefmlfieeaa
