/-
  THE WALK OF quadrigalaw04.RecordBack: it returns true, and writes nothing that was there.
-/
import Derived.Test.YtbljeagjlmdlhaaDoorRcBack
import Derived.Test.YtbljeagjlmdlhaaDoorRcRefRight
namespace Go.Proofs.YtbljeagjlmdlhaaDoor
open Go.RowKit

theorem new_frozen {W : World} {cs : Array Value} {T : TypeId} {n i : Nat} (h : n = W.heap.size) : (W.alloc (.cells cs T)).frozen? ⟨n, i, none⟩ = false := World.frozen?_alloc_at _ _ _ _ h
theorem keep_frozen {W W' : World} {p : Addr} (hb : Below W.heap.size W W') (hp : p.block < W.heap.size) (h : W.frozen? p = false) : W'.frozen? p = false := (hb.frozen hp).trans h

set_option maxHeartbeats 4000000 in
theorem backLaw_out (k g t p pg u gsn prev : Int) (key sb sa : ByteArray) (hb ha : Bool) (w : World) (hn : NameAt w) (hG : rcGreat key sb sa = false) (hk : ¬ k = 2) (h : rcOk k g t p pg key hb sb ha sa u = false) :
    Calls Tryd.prog 5 #[.agg #[.int .i64 k, .int .i64 g, .int .i64 t, .int .i64 p, .int .i64 pg, .string key, .bool hb, .string sb, .bool ha, .string sa, .int .i64 u], .int .i64 gsn, .int .i64 prev] w fun e w' => e = .returned (.bool true) ∧ Below w.heap.size w w' := by
  have KA := Lib.hid (fun W (hW : Below w.heap.size w W) => awake_rc W (hn.below hW))
  have KG := Lib.hid (fun W => great_rc k g t p pg u key sb sa hb ha W)
  rw [hG] at KG
  have HX : rcBack k g t p pg key hb sb ha sa u gsn prev = .agg #[.int .i64 0, .int .i64 0, .int .i64 0, .int .i64 0, .int .i64 0, .string ⟨#[]⟩, .bool false, .string ⟨#[]⟩, .bool false, .string ⟨#[]⟩, .int .i64 0] := by
    unfold rcBack; rw [show (k == 2) = false from by rw [beq_eq_false_iff_ne]; exact hk]; rfl
  have KB := Lib.hid (fun W => back_any k g t p pg u gsn prev key sb sa hb ha W)
  rw [HX] at KB
  have K1 := Lib.hid (fun W => refRight_any k g t p pg u key sb sa hb ha W)
  rw [h] at K1
  have hk2 : (k != 2) = true := by rw [bne_iff_ne]; exact hk
  clear HX h hG hn hk
  go_enter Tryd.func5, Tryd.ntmps5
  go_wp2_with fail
  refine (KG.out _).mono ?_
  rintro x w1 ⟨rfl, hb1⟩
  have c0 : w1.cell? ⟨w.heap.size, 0, none⟩ = some (.int .i64 k) := keep_cell hb1 (new_cell rfl rfl)
  have c1 : w1.cell? ⟨w.heap.size, 1, none⟩ = some (.int .i64 g) := keep_cell hb1 (new_cell rfl rfl)
  have c2 : w1.cell? ⟨w.heap.size, 2, none⟩ = some (.int .i64 t) := keep_cell hb1 (new_cell rfl rfl)
  have c3 : w1.cell? ⟨w.heap.size, 3, none⟩ = some (.int .i64 p) := keep_cell hb1 (new_cell rfl rfl)
  have c4 : w1.cell? ⟨w.heap.size, 4, none⟩ = some (.int .i64 pg) := keep_cell hb1 (new_cell rfl rfl)
  have c5 : w1.cell? ⟨w.heap.size, 5, none⟩ = some (.string key) := keep_cell hb1 (new_cell rfl rfl)
  have c6 : w1.cell? ⟨w.heap.size, 6, none⟩ = some (.bool hb) := keep_cell hb1 (new_cell rfl rfl)
  have c7 : w1.cell? ⟨w.heap.size, 7, none⟩ = some (.string sb) := keep_cell hb1 (new_cell rfl rfl)
  have c8 : w1.cell? ⟨w.heap.size, 8, none⟩ = some (.bool ha) := keep_cell hb1 (new_cell rfl rfl)
  have c9 : w1.cell? ⟨w.heap.size, 9, none⟩ = some (.string sa) := keep_cell hb1 (new_cell rfl rfl)
  have c10 : w1.cell? ⟨w.heap.size, 10, none⟩ = some (.int .i64 u) := keep_cell hb1 (new_cell rfl rfl)
  have hw1 : Below w.heap.size w w1 := bw_call hb1 (bw_alloc (Below.refl _ _))
  clear hb1 KG
  go_wp2_with fail
  refine (KB.out _).mono ?_
  rintro x w2 ⟨rfl, hb2⟩
  have d0 := fun o => keep_alloc (o := o) (keep_cell hb2 c0)
  have d1 := fun o => keep_alloc (o := o) (keep_cell hb2 c1)
  have d2 := fun o => keep_alloc (o := o) (keep_cell hb2 c2)
  have d3 := fun o => keep_alloc (o := o) (keep_cell hb2 c3)
  have d4 := fun o => keep_alloc (o := o) (keep_cell hb2 c4)
  have d5 := fun o => keep_alloc (o := o) (keep_cell hb2 c5)
  have d6 := fun o => keep_alloc (o := o) (keep_cell hb2 c6)
  have d7 := fun o => keep_alloc (o := o) (keep_cell hb2 c7)
  have d8 := fun o => keep_alloc (o := o) (keep_cell hb2 c8)
  have d9 := fun o => keep_alloc (o := o) (keep_cell hb2 c9)
  have d10 := fun o => keep_alloc (o := o) (keep_cell hb2 c10)
  have f0 := fun o o2 => keep_alloc (o := o2) (d0 o)
  have f1 := fun o o2 => keep_alloc (o := o2) (d1 o)
  have f2 := fun o o2 => keep_alloc (o := o2) (d2 o)
  have f3 := fun o o2 => keep_alloc (o := o2) (d3 o)
  have f4 := fun o o2 => keep_alloc (o := o2) (d4 o)
  have f5 := fun o o2 => keep_alloc (o := o2) (d5 o)
  have f6 := fun o o2 => keep_alloc (o := o2) (d6 o)
  have f7 := fun o o2 => keep_alloc (o := o2) (d7 o)
  have f8 := fun o o2 => keep_alloc (o := o2) (d8 o)
  have f9 := fun o o2 => keep_alloc (o := o2) (d9 o)
  have f10 := fun o o2 => keep_alloc (o := o2) (d10 o)
  have hw2 : Below w.heap.size w w2 := bw_call hb2 hw1
  clear hb2 hw1 KB c0 c1 c2 c3 c4 c5 c6 c7 c8 c9 c10
  go_wp2_with fail
  refine (K1.out _).mono ?_
  rintro x w3 ⟨rfl, hb3⟩
  have x0 : w3.cell? ⟨w2.heap.size, 0, none⟩ = some (.int .i64 0) := keep_cell hb3 (keep_alloc (new_cell rfl rfl))
  have x1 : w3.cell? ⟨w2.heap.size, 1, none⟩ = some (.int .i64 0) := keep_cell hb3 (keep_alloc (new_cell rfl rfl))
  have x2 : w3.cell? ⟨w2.heap.size, 2, none⟩ = some (.int .i64 0) := keep_cell hb3 (keep_alloc (new_cell rfl rfl))
  have x3 : w3.cell? ⟨w2.heap.size, 3, none⟩ = some (.int .i64 0) := keep_cell hb3 (keep_alloc (new_cell rfl rfl))
  have x4 : w3.cell? ⟨w2.heap.size, 4, none⟩ = some (.int .i64 0) := keep_cell hb3 (keep_alloc (new_cell rfl rfl))
  have x5 : w3.cell? ⟨w2.heap.size, 5, none⟩ = some (.string ⟨#[]⟩) := keep_cell hb3 (keep_alloc (new_cell rfl rfl))
  have x6 : w3.cell? ⟨w2.heap.size, 6, none⟩ = some (.bool false) := keep_cell hb3 (keep_alloc (new_cell rfl rfl))
  have x7 : w3.cell? ⟨w2.heap.size, 7, none⟩ = some (.string ⟨#[]⟩) := keep_cell hb3 (keep_alloc (new_cell rfl rfl))
  have x8 : w3.cell? ⟨w2.heap.size, 8, none⟩ = some (.bool false) := keep_cell hb3 (keep_alloc (new_cell rfl rfl))
  have x9 : w3.cell? ⟨w2.heap.size, 9, none⟩ = some (.string ⟨#[]⟩) := keep_cell hb3 (keep_alloc (new_cell rfl rfl))
  have x10 : w3.cell? ⟨w2.heap.size, 10, none⟩ = some (.int .i64 0) := keep_cell hb3 (keep_alloc (new_cell rfl rfl))
  have y0 : w3.cell? ⟨w2.heap.size + 1, 0, none⟩ = some (.int .i64 3) := keep_cell hb3 (new_cell (by rw [World.size_alloc]) rfl)
  have y1 : w3.cell? ⟨w2.heap.size + 1, 1, none⟩ = some (.int .i64 gsn) := keep_cell hb3 (new_cell (by rw [World.size_alloc]) rfl)
  have y2 : w3.cell? ⟨w2.heap.size + 1, 2, none⟩ = some (.int .i64 t) := keep_cell hb3 (new_cell (by rw [World.size_alloc]) rfl)
  have y3 : w3.cell? ⟨w2.heap.size + 1, 3, none⟩ = some (.int .i64 prev) := keep_cell hb3 (new_cell (by rw [World.size_alloc]) rfl)
  have y4 : w3.cell? ⟨w2.heap.size + 1, 4, none⟩ = some (.int .i64 pg) := keep_cell hb3 (new_cell (by rw [World.size_alloc]) rfl)
  have y5 : w3.cell? ⟨w2.heap.size + 1, 5, none⟩ = some (.string key) := keep_cell hb3 (new_cell (by rw [World.size_alloc]) rfl)
  have y6 : w3.cell? ⟨w2.heap.size + 1, 6, none⟩ = some (.bool ha) := keep_cell hb3 (new_cell (by rw [World.size_alloc]) rfl)
  have y7 : w3.cell? ⟨w2.heap.size + 1, 7, none⟩ = some (.string sa) := keep_cell hb3 (new_cell (by rw [World.size_alloc]) rfl)
  have y8 : w3.cell? ⟨w2.heap.size + 1, 8, none⟩ = some (.bool hb) := keep_cell hb3 (new_cell (by rw [World.size_alloc]) rfl)
  have y9 : w3.cell? ⟨w2.heap.size + 1, 9, none⟩ = some (.string sb) := keep_cell hb3 (new_cell (by rw [World.size_alloc]) rfl)
  have y10 : w3.cell? ⟨w2.heap.size + 1, 10, none⟩ = some (.int .i64 g) := keep_cell hb3 (new_cell (by rw [World.size_alloc]) rfl)
  have g0 : w3.cell? ⟨w.heap.size, 0, none⟩ = some (.int .i64 k) := keep_cell hb3 (f0 _ _)
  have yf : ∀ i, w3.frozen? ⟨w2.heap.size + 1, i, none⟩ = false := fun i => keep_frozen hb3 (by simp only [World.size_alloc]; omega) (new_frozen (by rw [World.size_alloc]))
  have hw3 : Below w.heap.size w w3 := bw_call hb3 (bw_alloc (bw_alloc hw2))
  have hsz : w.heap.size ≤ w2.heap.size + 1 := Nat.le_succ_of_le hw2.size
  clear hb3 K1 d0 f0 d1 f1 d2 f2 d3 f3 d4 f4 d5 f5 d6 f6 d7 f7 d8 f8 d9 f9 d10 f10
  obtain ⟨X, hX, r0, r1, r2, r3, r4, r5, r6, r7, r8, r9, r10, hbX⟩ := set11 (v0 := .int .i64 0) (v1 := .int .i64 0) (v2 := .int .i64 0) (v3 := .int .i64 0) (v4 := .int .i64 0) (v5 := .string ⟨#[]⟩) (v6 := .bool false) (v7 := .string ⟨#[]⟩) (v8 := .bool false) (v9 := .string ⟨#[]⟩) (v10 := .int .i64 0) hw3 hsz y0 y1 y2 y3 y4 y5 y6 y7 y8 y9 y10
  have hxX : ∀ i v, w3.cell? ⟨w2.heap.size, i, none⟩ = some v → X.cell? ⟨w2.heap.size, i, none⟩ = some v := fun i v hv => by
    have hne : ∀ j : Nat, (⟨w2.heap.size + 1, j, none⟩ : Addr) ≠ ⟨w2.heap.size, i, none⟩ := fun j e => by injection e with e1 _; exact absurd e1 (by omega)
    rw [hX]
    simp only [World.cell?_setCell_other _ _ _ _ (hne _)]
    exact hv
  have s0 := hxX 0 _ x0
  have s1 := hxX 1 _ x1
  have s2 := hxX 2 _ x2
  have s3 := hxX 3 _ x3
  have s4 := hxX 4 _ x4
  have s5 := hxX 5 _ x5
  have s6 := hxX 6 _ x6
  have s7 := hxX 7 _ x7
  have s8 := hxX 8 _ x8
  have s9 := hxX 9 _ x9
  have s10 := hxX 10 _ x10
  clear hxX
  have HXW := Lib.hid hX; clear hX
  go_wp2_with fail
  rw [← HXW.out]
  go_wp2_with fail
  refine (KA.out _ hbX).mono ?_
  rintro x w5 ⟨rfl, hb5⟩
  go_wp2
  go_ret
  exact ⟨rfl, bw_call hb5 hbX⟩

set_option maxHeartbeats 4000000 in
theorem backLaw_kind (k g t p pg u gsn prev : Int) (key sb sa : ByteArray) (hb ha : Bool) (w : World) (hn : NameAt w) (hG : rcGreat key sb sa = false) (hk : ¬ k = 2) (h : rcOk k g t p pg key hb sb ha sa u = true) :
    Calls Tryd.prog 5 #[.agg #[.int .i64 k, .int .i64 g, .int .i64 t, .int .i64 p, .int .i64 pg, .string key, .bool hb, .string sb, .bool ha, .string sa, .int .i64 u], .int .i64 gsn, .int .i64 prev] w fun e w' => e = .returned (.bool true) ∧ Below w.heap.size w w' := by
  have KA := Lib.hid (fun W (hW : Below w.heap.size w W) => awake_rc W (hn.below hW))
  have KG := Lib.hid (fun W => great_rc k g t p pg u key sb sa hb ha W)
  rw [hG] at KG
  have HX : rcBack k g t p pg key hb sb ha sa u gsn prev = .agg #[.int .i64 0, .int .i64 0, .int .i64 0, .int .i64 0, .int .i64 0, .string ⟨#[]⟩, .bool false, .string ⟨#[]⟩, .bool false, .string ⟨#[]⟩, .int .i64 0] := by
    unfold rcBack; rw [show (k == 2) = false from by rw [beq_eq_false_iff_ne]; exact hk]; rfl
  have KB := Lib.hid (fun W => back_any k g t p pg u gsn prev key sb sa hb ha W)
  rw [HX] at KB
  have K1 := Lib.hid (fun W => refRight_any k g t p pg u key sb sa hb ha W)
  rw [h] at K1
  have hk2 : (k != 2) = true := by rw [bne_iff_ne]; exact hk
  clear HX h hG hn hk
  go_enter Tryd.func5, Tryd.ntmps5
  go_wp2_with fail
  refine (KG.out _).mono ?_
  rintro x w1 ⟨rfl, hb1⟩
  have c0 : w1.cell? ⟨w.heap.size, 0, none⟩ = some (.int .i64 k) := keep_cell hb1 (new_cell rfl rfl)
  have c1 : w1.cell? ⟨w.heap.size, 1, none⟩ = some (.int .i64 g) := keep_cell hb1 (new_cell rfl rfl)
  have c2 : w1.cell? ⟨w.heap.size, 2, none⟩ = some (.int .i64 t) := keep_cell hb1 (new_cell rfl rfl)
  have c3 : w1.cell? ⟨w.heap.size, 3, none⟩ = some (.int .i64 p) := keep_cell hb1 (new_cell rfl rfl)
  have c4 : w1.cell? ⟨w.heap.size, 4, none⟩ = some (.int .i64 pg) := keep_cell hb1 (new_cell rfl rfl)
  have c5 : w1.cell? ⟨w.heap.size, 5, none⟩ = some (.string key) := keep_cell hb1 (new_cell rfl rfl)
  have c6 : w1.cell? ⟨w.heap.size, 6, none⟩ = some (.bool hb) := keep_cell hb1 (new_cell rfl rfl)
  have c7 : w1.cell? ⟨w.heap.size, 7, none⟩ = some (.string sb) := keep_cell hb1 (new_cell rfl rfl)
  have c8 : w1.cell? ⟨w.heap.size, 8, none⟩ = some (.bool ha) := keep_cell hb1 (new_cell rfl rfl)
  have c9 : w1.cell? ⟨w.heap.size, 9, none⟩ = some (.string sa) := keep_cell hb1 (new_cell rfl rfl)
  have c10 : w1.cell? ⟨w.heap.size, 10, none⟩ = some (.int .i64 u) := keep_cell hb1 (new_cell rfl rfl)
  have hw1 : Below w.heap.size w w1 := bw_call hb1 (bw_alloc (Below.refl _ _))
  clear hb1 KG
  go_wp2_with fail
  refine (KB.out _).mono ?_
  rintro x w2 ⟨rfl, hb2⟩
  have d0 := fun o => keep_alloc (o := o) (keep_cell hb2 c0)
  have d1 := fun o => keep_alloc (o := o) (keep_cell hb2 c1)
  have d2 := fun o => keep_alloc (o := o) (keep_cell hb2 c2)
  have d3 := fun o => keep_alloc (o := o) (keep_cell hb2 c3)
  have d4 := fun o => keep_alloc (o := o) (keep_cell hb2 c4)
  have d5 := fun o => keep_alloc (o := o) (keep_cell hb2 c5)
  have d6 := fun o => keep_alloc (o := o) (keep_cell hb2 c6)
  have d7 := fun o => keep_alloc (o := o) (keep_cell hb2 c7)
  have d8 := fun o => keep_alloc (o := o) (keep_cell hb2 c8)
  have d9 := fun o => keep_alloc (o := o) (keep_cell hb2 c9)
  have d10 := fun o => keep_alloc (o := o) (keep_cell hb2 c10)
  have f0 := fun o o2 => keep_alloc (o := o2) (d0 o)
  have f1 := fun o o2 => keep_alloc (o := o2) (d1 o)
  have f2 := fun o o2 => keep_alloc (o := o2) (d2 o)
  have f3 := fun o o2 => keep_alloc (o := o2) (d3 o)
  have f4 := fun o o2 => keep_alloc (o := o2) (d4 o)
  have f5 := fun o o2 => keep_alloc (o := o2) (d5 o)
  have f6 := fun o o2 => keep_alloc (o := o2) (d6 o)
  have f7 := fun o o2 => keep_alloc (o := o2) (d7 o)
  have f8 := fun o o2 => keep_alloc (o := o2) (d8 o)
  have f9 := fun o o2 => keep_alloc (o := o2) (d9 o)
  have f10 := fun o o2 => keep_alloc (o := o2) (d10 o)
  have hw2 : Below w.heap.size w w2 := bw_call hb2 hw1
  clear hb2 hw1 KB c0 c1 c2 c3 c4 c5 c6 c7 c8 c9 c10
  go_wp2_with fail
  refine (K1.out _).mono ?_
  rintro x w3 ⟨rfl, hb3⟩
  have x0 : w3.cell? ⟨w2.heap.size, 0, none⟩ = some (.int .i64 0) := keep_cell hb3 (keep_alloc (new_cell rfl rfl))
  have x1 : w3.cell? ⟨w2.heap.size, 1, none⟩ = some (.int .i64 0) := keep_cell hb3 (keep_alloc (new_cell rfl rfl))
  have x2 : w3.cell? ⟨w2.heap.size, 2, none⟩ = some (.int .i64 0) := keep_cell hb3 (keep_alloc (new_cell rfl rfl))
  have x3 : w3.cell? ⟨w2.heap.size, 3, none⟩ = some (.int .i64 0) := keep_cell hb3 (keep_alloc (new_cell rfl rfl))
  have x4 : w3.cell? ⟨w2.heap.size, 4, none⟩ = some (.int .i64 0) := keep_cell hb3 (keep_alloc (new_cell rfl rfl))
  have x5 : w3.cell? ⟨w2.heap.size, 5, none⟩ = some (.string ⟨#[]⟩) := keep_cell hb3 (keep_alloc (new_cell rfl rfl))
  have x6 : w3.cell? ⟨w2.heap.size, 6, none⟩ = some (.bool false) := keep_cell hb3 (keep_alloc (new_cell rfl rfl))
  have x7 : w3.cell? ⟨w2.heap.size, 7, none⟩ = some (.string ⟨#[]⟩) := keep_cell hb3 (keep_alloc (new_cell rfl rfl))
  have x8 : w3.cell? ⟨w2.heap.size, 8, none⟩ = some (.bool false) := keep_cell hb3 (keep_alloc (new_cell rfl rfl))
  have x9 : w3.cell? ⟨w2.heap.size, 9, none⟩ = some (.string ⟨#[]⟩) := keep_cell hb3 (keep_alloc (new_cell rfl rfl))
  have x10 : w3.cell? ⟨w2.heap.size, 10, none⟩ = some (.int .i64 0) := keep_cell hb3 (keep_alloc (new_cell rfl rfl))
  have y0 : w3.cell? ⟨w2.heap.size + 1, 0, none⟩ = some (.int .i64 3) := keep_cell hb3 (new_cell (by rw [World.size_alloc]) rfl)
  have y1 : w3.cell? ⟨w2.heap.size + 1, 1, none⟩ = some (.int .i64 gsn) := keep_cell hb3 (new_cell (by rw [World.size_alloc]) rfl)
  have y2 : w3.cell? ⟨w2.heap.size + 1, 2, none⟩ = some (.int .i64 t) := keep_cell hb3 (new_cell (by rw [World.size_alloc]) rfl)
  have y3 : w3.cell? ⟨w2.heap.size + 1, 3, none⟩ = some (.int .i64 prev) := keep_cell hb3 (new_cell (by rw [World.size_alloc]) rfl)
  have y4 : w3.cell? ⟨w2.heap.size + 1, 4, none⟩ = some (.int .i64 pg) := keep_cell hb3 (new_cell (by rw [World.size_alloc]) rfl)
  have y5 : w3.cell? ⟨w2.heap.size + 1, 5, none⟩ = some (.string key) := keep_cell hb3 (new_cell (by rw [World.size_alloc]) rfl)
  have y6 : w3.cell? ⟨w2.heap.size + 1, 6, none⟩ = some (.bool ha) := keep_cell hb3 (new_cell (by rw [World.size_alloc]) rfl)
  have y7 : w3.cell? ⟨w2.heap.size + 1, 7, none⟩ = some (.string sa) := keep_cell hb3 (new_cell (by rw [World.size_alloc]) rfl)
  have y8 : w3.cell? ⟨w2.heap.size + 1, 8, none⟩ = some (.bool hb) := keep_cell hb3 (new_cell (by rw [World.size_alloc]) rfl)
  have y9 : w3.cell? ⟨w2.heap.size + 1, 9, none⟩ = some (.string sb) := keep_cell hb3 (new_cell (by rw [World.size_alloc]) rfl)
  have y10 : w3.cell? ⟨w2.heap.size + 1, 10, none⟩ = some (.int .i64 g) := keep_cell hb3 (new_cell (by rw [World.size_alloc]) rfl)
  have g0 : w3.cell? ⟨w.heap.size, 0, none⟩ = some (.int .i64 k) := keep_cell hb3 (f0 _ _)
  have yf : ∀ i, w3.frozen? ⟨w2.heap.size + 1, i, none⟩ = false := fun i => keep_frozen hb3 (by simp only [World.size_alloc]; omega) (new_frozen (by rw [World.size_alloc]))
  have hw3 : Below w.heap.size w w3 := bw_call hb3 (bw_alloc (bw_alloc hw2))
  have hsz : w.heap.size ≤ w2.heap.size + 1 := Nat.le_succ_of_le hw2.size
  clear hb3 K1 d0 f0 d1 f1 d2 f2 d3 f3 d4 f4 d5 f5 d6 f6 d7 f7 d8 f8 d9 f9 d10 f10
  obtain ⟨X, hX, r0, r1, r2, r3, r4, r5, r6, r7, r8, r9, r10, hbX⟩ := set11 (v0 := .int .i64 0) (v1 := .int .i64 0) (v2 := .int .i64 0) (v3 := .int .i64 0) (v4 := .int .i64 0) (v5 := .string ⟨#[]⟩) (v6 := .bool false) (v7 := .string ⟨#[]⟩) (v8 := .bool false) (v9 := .string ⟨#[]⟩) (v10 := .int .i64 0) hw3 hsz y0 y1 y2 y3 y4 y5 y6 y7 y8 y9 y10
  have hxX : ∀ i v, w3.cell? ⟨w2.heap.size, i, none⟩ = some v → X.cell? ⟨w2.heap.size, i, none⟩ = some v := fun i v hv => by
    have hne : ∀ j : Nat, (⟨w2.heap.size + 1, j, none⟩ : Addr) ≠ ⟨w2.heap.size, i, none⟩ := fun j e => by injection e with e1 _; exact absurd e1 (by omega)
    rw [hX]
    simp only [World.cell?_setCell_other _ _ _ _ (hne _)]
    exact hv
  have s0 := hxX 0 _ x0
  have s1 := hxX 1 _ x1
  have s2 := hxX 2 _ x2
  have s3 := hxX 3 _ x3
  have s4 := hxX 4 _ x4
  have s5 := hxX 5 _ x5
  have s6 := hxX 6 _ x6
  have s7 := hxX 7 _ x7
  have s8 := hxX 8 _ x8
  have s9 := hxX 9 _ x9
  have s10 := hxX 10 _ x10
  clear hxX
  have HXW := Lib.hid hX; clear hX
  go_wp2_with fail
  rw [← HXW.out]
  go_wp2_with fail
  refine (KA.out _ hbX).mono ?_
  rintro x w5 ⟨rfl, hb5⟩
  go_wp2
  go_ret
  exact ⟨rfl, bw_call hb5 hbX⟩

set_option maxHeartbeats 4000000 in
theorem backLaw_wrong (g t p pg u gsn prev : Int) (key sb sa : ByteArray) (hb ha : Bool) (w : World) (hn : NameAt w) (hG : rcGreat key sb sa = false) (h : rcOk 2 g t p pg key hb sb ha sa u = false) :
    Calls Tryd.prog 5 #[.agg #[.int .i64 2, .int .i64 g, .int .i64 t, .int .i64 p, .int .i64 pg, .string key, .bool hb, .string sb, .bool ha, .string sa, .int .i64 u], .int .i64 gsn, .int .i64 prev] w fun e w' => e = .returned (.bool true) ∧ Below w.heap.size w w' := by
  have KA := Lib.hid (fun W (hW : Below w.heap.size w W) => awake_rc W (hn.below hW))
  have KG := Lib.hid (fun W => great_rc 2 g t p pg u key sb sa hb ha W)
  rw [hG] at KG
  have HX : rcBack 2 g t p pg key hb sb ha sa u gsn prev = .agg #[.int .i64 0, .int .i64 0, .int .i64 0, .int .i64 0, .int .i64 0, .string ⟨#[]⟩, .bool false, .string ⟨#[]⟩, .bool false, .string ⟨#[]⟩, .int .i64 0] := by
    unfold rcBack; rw [h]; rfl
  have KB := Lib.hid (fun W => back_any 2 g t p pg u gsn prev key sb sa hb ha W)
  rw [HX] at KB
  have K1 := Lib.hid (fun W => refRight_any 2 g t p pg u key sb sa hb ha W)
  rw [h] at K1
  clear HX h hG hn
  go_enter Tryd.func5, Tryd.ntmps5
  go_wp2_with fail
  refine (KG.out _).mono ?_
  rintro x w1 ⟨rfl, hb1⟩
  have c0 : w1.cell? ⟨w.heap.size, 0, none⟩ = some (.int .i64 2) := keep_cell hb1 (new_cell rfl rfl)
  have c1 : w1.cell? ⟨w.heap.size, 1, none⟩ = some (.int .i64 g) := keep_cell hb1 (new_cell rfl rfl)
  have c2 : w1.cell? ⟨w.heap.size, 2, none⟩ = some (.int .i64 t) := keep_cell hb1 (new_cell rfl rfl)
  have c3 : w1.cell? ⟨w.heap.size, 3, none⟩ = some (.int .i64 p) := keep_cell hb1 (new_cell rfl rfl)
  have c4 : w1.cell? ⟨w.heap.size, 4, none⟩ = some (.int .i64 pg) := keep_cell hb1 (new_cell rfl rfl)
  have c5 : w1.cell? ⟨w.heap.size, 5, none⟩ = some (.string key) := keep_cell hb1 (new_cell rfl rfl)
  have c6 : w1.cell? ⟨w.heap.size, 6, none⟩ = some (.bool hb) := keep_cell hb1 (new_cell rfl rfl)
  have c7 : w1.cell? ⟨w.heap.size, 7, none⟩ = some (.string sb) := keep_cell hb1 (new_cell rfl rfl)
  have c8 : w1.cell? ⟨w.heap.size, 8, none⟩ = some (.bool ha) := keep_cell hb1 (new_cell rfl rfl)
  have c9 : w1.cell? ⟨w.heap.size, 9, none⟩ = some (.string sa) := keep_cell hb1 (new_cell rfl rfl)
  have c10 : w1.cell? ⟨w.heap.size, 10, none⟩ = some (.int .i64 u) := keep_cell hb1 (new_cell rfl rfl)
  have hw1 : Below w.heap.size w w1 := bw_call hb1 (bw_alloc (Below.refl _ _))
  clear hb1 KG
  go_wp2_with fail
  refine (KB.out _).mono ?_
  rintro x w2 ⟨rfl, hb2⟩
  have d0 := fun o => keep_alloc (o := o) (keep_cell hb2 c0)
  have d1 := fun o => keep_alloc (o := o) (keep_cell hb2 c1)
  have d2 := fun o => keep_alloc (o := o) (keep_cell hb2 c2)
  have d3 := fun o => keep_alloc (o := o) (keep_cell hb2 c3)
  have d4 := fun o => keep_alloc (o := o) (keep_cell hb2 c4)
  have d5 := fun o => keep_alloc (o := o) (keep_cell hb2 c5)
  have d6 := fun o => keep_alloc (o := o) (keep_cell hb2 c6)
  have d7 := fun o => keep_alloc (o := o) (keep_cell hb2 c7)
  have d8 := fun o => keep_alloc (o := o) (keep_cell hb2 c8)
  have d9 := fun o => keep_alloc (o := o) (keep_cell hb2 c9)
  have d10 := fun o => keep_alloc (o := o) (keep_cell hb2 c10)
  have f0 := fun o o2 => keep_alloc (o := o2) (d0 o)
  have f1 := fun o o2 => keep_alloc (o := o2) (d1 o)
  have f2 := fun o o2 => keep_alloc (o := o2) (d2 o)
  have f3 := fun o o2 => keep_alloc (o := o2) (d3 o)
  have f4 := fun o o2 => keep_alloc (o := o2) (d4 o)
  have f5 := fun o o2 => keep_alloc (o := o2) (d5 o)
  have f6 := fun o o2 => keep_alloc (o := o2) (d6 o)
  have f7 := fun o o2 => keep_alloc (o := o2) (d7 o)
  have f8 := fun o o2 => keep_alloc (o := o2) (d8 o)
  have f9 := fun o o2 => keep_alloc (o := o2) (d9 o)
  have f10 := fun o o2 => keep_alloc (o := o2) (d10 o)
  have hw2 : Below w.heap.size w w2 := bw_call hb2 hw1
  clear hb2 hw1 KB c0 c1 c2 c3 c4 c5 c6 c7 c8 c9 c10
  go_wp2_with fail
  refine (K1.out _).mono ?_
  rintro x w3 ⟨rfl, hb3⟩
  have x0 : w3.cell? ⟨w2.heap.size, 0, none⟩ = some (.int .i64 0) := keep_cell hb3 (keep_alloc (new_cell rfl rfl))
  have x1 : w3.cell? ⟨w2.heap.size, 1, none⟩ = some (.int .i64 0) := keep_cell hb3 (keep_alloc (new_cell rfl rfl))
  have x2 : w3.cell? ⟨w2.heap.size, 2, none⟩ = some (.int .i64 0) := keep_cell hb3 (keep_alloc (new_cell rfl rfl))
  have x3 : w3.cell? ⟨w2.heap.size, 3, none⟩ = some (.int .i64 0) := keep_cell hb3 (keep_alloc (new_cell rfl rfl))
  have x4 : w3.cell? ⟨w2.heap.size, 4, none⟩ = some (.int .i64 0) := keep_cell hb3 (keep_alloc (new_cell rfl rfl))
  have x5 : w3.cell? ⟨w2.heap.size, 5, none⟩ = some (.string ⟨#[]⟩) := keep_cell hb3 (keep_alloc (new_cell rfl rfl))
  have x6 : w3.cell? ⟨w2.heap.size, 6, none⟩ = some (.bool false) := keep_cell hb3 (keep_alloc (new_cell rfl rfl))
  have x7 : w3.cell? ⟨w2.heap.size, 7, none⟩ = some (.string ⟨#[]⟩) := keep_cell hb3 (keep_alloc (new_cell rfl rfl))
  have x8 : w3.cell? ⟨w2.heap.size, 8, none⟩ = some (.bool false) := keep_cell hb3 (keep_alloc (new_cell rfl rfl))
  have x9 : w3.cell? ⟨w2.heap.size, 9, none⟩ = some (.string ⟨#[]⟩) := keep_cell hb3 (keep_alloc (new_cell rfl rfl))
  have x10 : w3.cell? ⟨w2.heap.size, 10, none⟩ = some (.int .i64 0) := keep_cell hb3 (keep_alloc (new_cell rfl rfl))
  have y0 : w3.cell? ⟨w2.heap.size + 1, 0, none⟩ = some (.int .i64 3) := keep_cell hb3 (new_cell (by rw [World.size_alloc]) rfl)
  have y1 : w3.cell? ⟨w2.heap.size + 1, 1, none⟩ = some (.int .i64 gsn) := keep_cell hb3 (new_cell (by rw [World.size_alloc]) rfl)
  have y2 : w3.cell? ⟨w2.heap.size + 1, 2, none⟩ = some (.int .i64 t) := keep_cell hb3 (new_cell (by rw [World.size_alloc]) rfl)
  have y3 : w3.cell? ⟨w2.heap.size + 1, 3, none⟩ = some (.int .i64 prev) := keep_cell hb3 (new_cell (by rw [World.size_alloc]) rfl)
  have y4 : w3.cell? ⟨w2.heap.size + 1, 4, none⟩ = some (.int .i64 pg) := keep_cell hb3 (new_cell (by rw [World.size_alloc]) rfl)
  have y5 : w3.cell? ⟨w2.heap.size + 1, 5, none⟩ = some (.string key) := keep_cell hb3 (new_cell (by rw [World.size_alloc]) rfl)
  have y6 : w3.cell? ⟨w2.heap.size + 1, 6, none⟩ = some (.bool ha) := keep_cell hb3 (new_cell (by rw [World.size_alloc]) rfl)
  have y7 : w3.cell? ⟨w2.heap.size + 1, 7, none⟩ = some (.string sa) := keep_cell hb3 (new_cell (by rw [World.size_alloc]) rfl)
  have y8 : w3.cell? ⟨w2.heap.size + 1, 8, none⟩ = some (.bool hb) := keep_cell hb3 (new_cell (by rw [World.size_alloc]) rfl)
  have y9 : w3.cell? ⟨w2.heap.size + 1, 9, none⟩ = some (.string sb) := keep_cell hb3 (new_cell (by rw [World.size_alloc]) rfl)
  have y10 : w3.cell? ⟨w2.heap.size + 1, 10, none⟩ = some (.int .i64 g) := keep_cell hb3 (new_cell (by rw [World.size_alloc]) rfl)
  have g0 : w3.cell? ⟨w.heap.size, 0, none⟩ = some (.int .i64 2) := keep_cell hb3 (f0 _ _)
  have yf : ∀ i, w3.frozen? ⟨w2.heap.size + 1, i, none⟩ = false := fun i => keep_frozen hb3 (by simp only [World.size_alloc]; omega) (new_frozen (by rw [World.size_alloc]))
  have hw3 : Below w.heap.size w w3 := bw_call hb3 (bw_alloc (bw_alloc hw2))
  have hsz : w.heap.size ≤ w2.heap.size + 1 := Nat.le_succ_of_le hw2.size
  clear hb3 K1 d0 f0 d1 f1 d2 f2 d3 f3 d4 f4 d5 f5 d6 f6 d7 f7 d8 f8 d9 f9 d10 f10
  obtain ⟨X, hX, r0, r1, r2, r3, r4, r5, r6, r7, r8, r9, r10, hbX⟩ := set11 (v0 := .int .i64 0) (v1 := .int .i64 0) (v2 := .int .i64 0) (v3 := .int .i64 0) (v4 := .int .i64 0) (v5 := .string ⟨#[]⟩) (v6 := .bool false) (v7 := .string ⟨#[]⟩) (v8 := .bool false) (v9 := .string ⟨#[]⟩) (v10 := .int .i64 0) hw3 hsz y0 y1 y2 y3 y4 y5 y6 y7 y8 y9 y10
  have hxX : ∀ i v, w3.cell? ⟨w2.heap.size, i, none⟩ = some v → X.cell? ⟨w2.heap.size, i, none⟩ = some v := fun i v hv => by
    have hne : ∀ j : Nat, (⟨w2.heap.size + 1, j, none⟩ : Addr) ≠ ⟨w2.heap.size, i, none⟩ := fun j e => by injection e with e1 _; exact absurd e1 (by omega)
    rw [hX]
    simp only [World.cell?_setCell_other _ _ _ _ (hne _)]
    exact hv
  have s0 := hxX 0 _ x0
  have s1 := hxX 1 _ x1
  have s2 := hxX 2 _ x2
  have s3 := hxX 3 _ x3
  have s4 := hxX 4 _ x4
  have s5 := hxX 5 _ x5
  have s6 := hxX 6 _ x6
  have s7 := hxX 7 _ x7
  have s8 := hxX 8 _ x8
  have s9 := hxX 9 _ x9
  have s10 := hxX 10 _ x10
  clear hxX
  have HXW := Lib.hid hX; clear hX
  go_wp2_with fail
  rw [← HXW.out]
  go_wp2_with fail
  refine (KA.out _ hbX).mono ?_
  rintro x w5 ⟨rfl, hb5⟩
  go_wp2
  go_ret
  exact ⟨rfl, bw_call hb5 hbX⟩

set_option maxHeartbeats 4000000 in
theorem backLaw_no (g t p pg u gsn prev : Int) (key sb sa : ByteArray) (hb ha : Bool) (w : World) (hn : NameAt w) (hG : rcGreat key sb sa = false) (h : rcOk 2 g t p pg key hb sb ha sa u = true) (hO : rcOk 3 gsn t prev pg key ha sa hb sb g = false) :
    Calls Tryd.prog 5 #[.agg #[.int .i64 2, .int .i64 g, .int .i64 t, .int .i64 p, .int .i64 pg, .string key, .bool hb, .string sb, .bool ha, .string sa, .int .i64 u], .int .i64 gsn, .int .i64 prev] w fun e w' => e = .returned (.bool true) ∧ Below w.heap.size w w' := by
  have KA := Lib.hid (fun W (hW : Below w.heap.size w W) => awake_rc W (hn.below hW))
  have KG := Lib.hid (fun W => great_rc 2 g t p pg u key sb sa hb ha W)
  rw [hG] at KG
  have HX : rcBack 2 g t p pg key hb sb ha sa u gsn prev = .agg #[.int .i64 0, .int .i64 0, .int .i64 0, .int .i64 0, .int .i64 0, .string ⟨#[]⟩, .bool false, .string ⟨#[]⟩, .bool false, .string ⟨#[]⟩, .int .i64 0] := by
    unfold rcBack; rw [h, hO]; rfl
  have KB := Lib.hid (fun W => back_any 2 g t p pg u gsn prev key sb sa hb ha W)
  rw [HX] at KB
  have K1 := Lib.hid (fun W => refRight_any 2 g t p pg u key sb sa hb ha W)
  rw [h] at K1
  have K2 := Lib.hid (fun W => refRight_any 3 gsn t prev pg g key sa sb ha hb W)
  rw [hO] at K2
  clear HX h hG hn hO
  go_enter Tryd.func5, Tryd.ntmps5
  go_wp2_with fail
  refine (KG.out _).mono ?_
  rintro x w1 ⟨rfl, hb1⟩
  have c0 : w1.cell? ⟨w.heap.size, 0, none⟩ = some (.int .i64 2) := keep_cell hb1 (new_cell rfl rfl)
  have c1 : w1.cell? ⟨w.heap.size, 1, none⟩ = some (.int .i64 g) := keep_cell hb1 (new_cell rfl rfl)
  have c2 : w1.cell? ⟨w.heap.size, 2, none⟩ = some (.int .i64 t) := keep_cell hb1 (new_cell rfl rfl)
  have c3 : w1.cell? ⟨w.heap.size, 3, none⟩ = some (.int .i64 p) := keep_cell hb1 (new_cell rfl rfl)
  have c4 : w1.cell? ⟨w.heap.size, 4, none⟩ = some (.int .i64 pg) := keep_cell hb1 (new_cell rfl rfl)
  have c5 : w1.cell? ⟨w.heap.size, 5, none⟩ = some (.string key) := keep_cell hb1 (new_cell rfl rfl)
  have c6 : w1.cell? ⟨w.heap.size, 6, none⟩ = some (.bool hb) := keep_cell hb1 (new_cell rfl rfl)
  have c7 : w1.cell? ⟨w.heap.size, 7, none⟩ = some (.string sb) := keep_cell hb1 (new_cell rfl rfl)
  have c8 : w1.cell? ⟨w.heap.size, 8, none⟩ = some (.bool ha) := keep_cell hb1 (new_cell rfl rfl)
  have c9 : w1.cell? ⟨w.heap.size, 9, none⟩ = some (.string sa) := keep_cell hb1 (new_cell rfl rfl)
  have c10 : w1.cell? ⟨w.heap.size, 10, none⟩ = some (.int .i64 u) := keep_cell hb1 (new_cell rfl rfl)
  have hw1 : Below w.heap.size w w1 := bw_call hb1 (bw_alloc (Below.refl _ _))
  clear hb1 KG
  go_wp2_with fail
  refine (KB.out _).mono ?_
  rintro x w2 ⟨rfl, hb2⟩
  have d0 := fun o => keep_alloc (o := o) (keep_cell hb2 c0)
  have d1 := fun o => keep_alloc (o := o) (keep_cell hb2 c1)
  have d2 := fun o => keep_alloc (o := o) (keep_cell hb2 c2)
  have d3 := fun o => keep_alloc (o := o) (keep_cell hb2 c3)
  have d4 := fun o => keep_alloc (o := o) (keep_cell hb2 c4)
  have d5 := fun o => keep_alloc (o := o) (keep_cell hb2 c5)
  have d6 := fun o => keep_alloc (o := o) (keep_cell hb2 c6)
  have d7 := fun o => keep_alloc (o := o) (keep_cell hb2 c7)
  have d8 := fun o => keep_alloc (o := o) (keep_cell hb2 c8)
  have d9 := fun o => keep_alloc (o := o) (keep_cell hb2 c9)
  have d10 := fun o => keep_alloc (o := o) (keep_cell hb2 c10)
  have f0 := fun o o2 => keep_alloc (o := o2) (d0 o)
  have f1 := fun o o2 => keep_alloc (o := o2) (d1 o)
  have f2 := fun o o2 => keep_alloc (o := o2) (d2 o)
  have f3 := fun o o2 => keep_alloc (o := o2) (d3 o)
  have f4 := fun o o2 => keep_alloc (o := o2) (d4 o)
  have f5 := fun o o2 => keep_alloc (o := o2) (d5 o)
  have f6 := fun o o2 => keep_alloc (o := o2) (d6 o)
  have f7 := fun o o2 => keep_alloc (o := o2) (d7 o)
  have f8 := fun o o2 => keep_alloc (o := o2) (d8 o)
  have f9 := fun o o2 => keep_alloc (o := o2) (d9 o)
  have f10 := fun o o2 => keep_alloc (o := o2) (d10 o)
  have hw2 : Below w.heap.size w w2 := bw_call hb2 hw1
  clear hb2 hw1 KB c0 c1 c2 c3 c4 c5 c6 c7 c8 c9 c10
  go_wp2_with fail
  refine (K1.out _).mono ?_
  rintro x w3 ⟨rfl, hb3⟩
  have x0 : w3.cell? ⟨w2.heap.size, 0, none⟩ = some (.int .i64 0) := keep_cell hb3 (keep_alloc (new_cell rfl rfl))
  have x1 : w3.cell? ⟨w2.heap.size, 1, none⟩ = some (.int .i64 0) := keep_cell hb3 (keep_alloc (new_cell rfl rfl))
  have x2 : w3.cell? ⟨w2.heap.size, 2, none⟩ = some (.int .i64 0) := keep_cell hb3 (keep_alloc (new_cell rfl rfl))
  have x3 : w3.cell? ⟨w2.heap.size, 3, none⟩ = some (.int .i64 0) := keep_cell hb3 (keep_alloc (new_cell rfl rfl))
  have x4 : w3.cell? ⟨w2.heap.size, 4, none⟩ = some (.int .i64 0) := keep_cell hb3 (keep_alloc (new_cell rfl rfl))
  have x5 : w3.cell? ⟨w2.heap.size, 5, none⟩ = some (.string ⟨#[]⟩) := keep_cell hb3 (keep_alloc (new_cell rfl rfl))
  have x6 : w3.cell? ⟨w2.heap.size, 6, none⟩ = some (.bool false) := keep_cell hb3 (keep_alloc (new_cell rfl rfl))
  have x7 : w3.cell? ⟨w2.heap.size, 7, none⟩ = some (.string ⟨#[]⟩) := keep_cell hb3 (keep_alloc (new_cell rfl rfl))
  have x8 : w3.cell? ⟨w2.heap.size, 8, none⟩ = some (.bool false) := keep_cell hb3 (keep_alloc (new_cell rfl rfl))
  have x9 : w3.cell? ⟨w2.heap.size, 9, none⟩ = some (.string ⟨#[]⟩) := keep_cell hb3 (keep_alloc (new_cell rfl rfl))
  have x10 : w3.cell? ⟨w2.heap.size, 10, none⟩ = some (.int .i64 0) := keep_cell hb3 (keep_alloc (new_cell rfl rfl))
  have y0 : w3.cell? ⟨w2.heap.size + 1, 0, none⟩ = some (.int .i64 3) := keep_cell hb3 (new_cell (by rw [World.size_alloc]) rfl)
  have y1 : w3.cell? ⟨w2.heap.size + 1, 1, none⟩ = some (.int .i64 gsn) := keep_cell hb3 (new_cell (by rw [World.size_alloc]) rfl)
  have y2 : w3.cell? ⟨w2.heap.size + 1, 2, none⟩ = some (.int .i64 t) := keep_cell hb3 (new_cell (by rw [World.size_alloc]) rfl)
  have y3 : w3.cell? ⟨w2.heap.size + 1, 3, none⟩ = some (.int .i64 prev) := keep_cell hb3 (new_cell (by rw [World.size_alloc]) rfl)
  have y4 : w3.cell? ⟨w2.heap.size + 1, 4, none⟩ = some (.int .i64 pg) := keep_cell hb3 (new_cell (by rw [World.size_alloc]) rfl)
  have y5 : w3.cell? ⟨w2.heap.size + 1, 5, none⟩ = some (.string key) := keep_cell hb3 (new_cell (by rw [World.size_alloc]) rfl)
  have y6 : w3.cell? ⟨w2.heap.size + 1, 6, none⟩ = some (.bool ha) := keep_cell hb3 (new_cell (by rw [World.size_alloc]) rfl)
  have y7 : w3.cell? ⟨w2.heap.size + 1, 7, none⟩ = some (.string sa) := keep_cell hb3 (new_cell (by rw [World.size_alloc]) rfl)
  have y8 : w3.cell? ⟨w2.heap.size + 1, 8, none⟩ = some (.bool hb) := keep_cell hb3 (new_cell (by rw [World.size_alloc]) rfl)
  have y9 : w3.cell? ⟨w2.heap.size + 1, 9, none⟩ = some (.string sb) := keep_cell hb3 (new_cell (by rw [World.size_alloc]) rfl)
  have y10 : w3.cell? ⟨w2.heap.size + 1, 10, none⟩ = some (.int .i64 g) := keep_cell hb3 (new_cell (by rw [World.size_alloc]) rfl)
  have g0 : w3.cell? ⟨w.heap.size, 0, none⟩ = some (.int .i64 2) := keep_cell hb3 (f0 _ _)
  have yf : ∀ i, w3.frozen? ⟨w2.heap.size + 1, i, none⟩ = false := fun i => keep_frozen hb3 (by simp only [World.size_alloc]; omega) (new_frozen (by rw [World.size_alloc]))
  have hw3 : Below w.heap.size w w3 := bw_call hb3 (bw_alloc (bw_alloc hw2))
  have hlt0 : w2.heap.size + 1 < w3.heap.size := block_lt y0
  have hsz : w.heap.size ≤ w2.heap.size + 1 := Nat.le_succ_of_le hw2.size
  clear hb3 K1 d0 f0 d1 f1 d2 f2 d3 f3 d4 f4 d5 f5 d6 f6 d7 f7 d8 f8 d9 f9 d10 f10
  go_wp2_with fail
  refine (K2.out _).mono ?_
  rintro x w4 ⟨rfl, hb4⟩
  replace x0 := keep_cell hb4 x0
  replace y0 := keep_cell hb4 y0
  replace x1 := keep_cell hb4 x1
  replace y1 := keep_cell hb4 y1
  replace x2 := keep_cell hb4 x2
  replace y2 := keep_cell hb4 y2
  replace x3 := keep_cell hb4 x3
  replace y3 := keep_cell hb4 y3
  replace x4 := keep_cell hb4 x4
  replace y4 := keep_cell hb4 y4
  replace x5 := keep_cell hb4 x5
  replace y5 := keep_cell hb4 y5
  replace x6 := keep_cell hb4 x6
  replace y6 := keep_cell hb4 y6
  replace x7 := keep_cell hb4 x7
  replace y7 := keep_cell hb4 y7
  replace x8 := keep_cell hb4 x8
  replace y8 := keep_cell hb4 y8
  replace x9 := keep_cell hb4 x9
  replace y9 := keep_cell hb4 y9
  replace x10 := keep_cell hb4 x10
  replace y10 := keep_cell hb4 y10
  have hlt : w2.heap.size + 1 < w3.heap.size := hlt0
  replace yf : ∀ i, w4.frozen? ⟨w2.heap.size + 1, i, none⟩ = false := fun i => keep_frozen hb4 hlt (yf i)
  have hw4 : Below w.heap.size w w4 := bw_call hb4 hw3
  clear hb4 K2
  obtain ⟨X, hX, r0, r1, r2, r3, r4, r5, r6, r7, r8, r9, r10, hbX⟩ := set11 (v0 := .int .i64 0) (v1 := .int .i64 0) (v2 := .int .i64 0) (v3 := .int .i64 0) (v4 := .int .i64 0) (v5 := .string ⟨#[]⟩) (v6 := .bool false) (v7 := .string ⟨#[]⟩) (v8 := .bool false) (v9 := .string ⟨#[]⟩) (v10 := .int .i64 0) hw4 hsz y0 y1 y2 y3 y4 y5 y6 y7 y8 y9 y10
  have hxX : ∀ i v, w4.cell? ⟨w2.heap.size, i, none⟩ = some v → X.cell? ⟨w2.heap.size, i, none⟩ = some v := fun i v hv => by
    have hne : ∀ j : Nat, (⟨w2.heap.size + 1, j, none⟩ : Addr) ≠ ⟨w2.heap.size, i, none⟩ := fun j e => by injection e with e1 _; exact absurd e1 (by omega)
    rw [hX]
    simp only [World.cell?_setCell_other _ _ _ _ (hne _)]
    exact hv
  have s0 := hxX 0 _ x0
  have s1 := hxX 1 _ x1
  have s2 := hxX 2 _ x2
  have s3 := hxX 3 _ x3
  have s4 := hxX 4 _ x4
  have s5 := hxX 5 _ x5
  have s6 := hxX 6 _ x6
  have s7 := hxX 7 _ x7
  have s8 := hxX 8 _ x8
  have s9 := hxX 9 _ x9
  have s10 := hxX 10 _ x10
  clear hxX
  have HXW := Lib.hid hX; clear hX
  go_wp2_with fail
  rw [← HXW.out]
  go_wp2_with fail
  refine (KA.out _ hbX).mono ?_
  rintro x w5 ⟨rfl, hb5⟩
  go_wp2
  go_ret
  exact ⟨rfl, bw_call hb5 hbX⟩

set_option maxHeartbeats 4000000 in
theorem backLaw_yes (g t p pg u gsn prev : Int) (key sb sa : ByteArray) (hb ha : Bool) (w : World) (hn : NameAt w) (hG : rcGreat key sb sa = false) (h : rcOk 2 g t p pg key hb sb ha sa u = true) (hO : rcOk 3 gsn t prev pg key ha sa hb sb g = true) :
    Calls Tryd.prog 5 #[.agg #[.int .i64 2, .int .i64 g, .int .i64 t, .int .i64 p, .int .i64 pg, .string key, .bool hb, .string sb, .bool ha, .string sa, .int .i64 u], .int .i64 gsn, .int .i64 prev] w fun e w' => e = .returned (.bool true) ∧ Below w.heap.size w w' := by
  have KA := Lib.hid (fun W (hW : Below w.heap.size w W) => awake_rc W (hn.below hW))
  have KG := Lib.hid (fun W => great_rc 2 g t p pg u key sb sa hb ha W)
  rw [hG] at KG
  have HX : rcBack 2 g t p pg key hb sb ha sa u gsn prev = .agg #[.int .i64 3, .int .i64 gsn, .int .i64 t, .int .i64 prev, .int .i64 pg, .string key, .bool ha, .string sa, .bool hb, .string sb, .int .i64 g] := by
    unfold rcBack; rw [h, hO]; rfl
  have KB := Lib.hid (fun W => back_any 2 g t p pg u gsn prev key sb sa hb ha W)
  rw [HX] at KB
  have K1 := Lib.hid (fun W => refRight_any 2 g t p pg u key sb sa hb ha W)
  rw [h] at K1
  have K2 := Lib.hid (fun W => refRight_any 3 gsn t prev pg g key sa sb ha hb W)
  rw [hO] at K2
  clear HX h hG hn hO
  go_enter Tryd.func5, Tryd.ntmps5
  go_wp2_with fail
  refine (KG.out _).mono ?_
  rintro x w1 ⟨rfl, hb1⟩
  have c0 : w1.cell? ⟨w.heap.size, 0, none⟩ = some (.int .i64 2) := keep_cell hb1 (new_cell rfl rfl)
  have c1 : w1.cell? ⟨w.heap.size, 1, none⟩ = some (.int .i64 g) := keep_cell hb1 (new_cell rfl rfl)
  have c2 : w1.cell? ⟨w.heap.size, 2, none⟩ = some (.int .i64 t) := keep_cell hb1 (new_cell rfl rfl)
  have c3 : w1.cell? ⟨w.heap.size, 3, none⟩ = some (.int .i64 p) := keep_cell hb1 (new_cell rfl rfl)
  have c4 : w1.cell? ⟨w.heap.size, 4, none⟩ = some (.int .i64 pg) := keep_cell hb1 (new_cell rfl rfl)
  have c5 : w1.cell? ⟨w.heap.size, 5, none⟩ = some (.string key) := keep_cell hb1 (new_cell rfl rfl)
  have c6 : w1.cell? ⟨w.heap.size, 6, none⟩ = some (.bool hb) := keep_cell hb1 (new_cell rfl rfl)
  have c7 : w1.cell? ⟨w.heap.size, 7, none⟩ = some (.string sb) := keep_cell hb1 (new_cell rfl rfl)
  have c8 : w1.cell? ⟨w.heap.size, 8, none⟩ = some (.bool ha) := keep_cell hb1 (new_cell rfl rfl)
  have c9 : w1.cell? ⟨w.heap.size, 9, none⟩ = some (.string sa) := keep_cell hb1 (new_cell rfl rfl)
  have c10 : w1.cell? ⟨w.heap.size, 10, none⟩ = some (.int .i64 u) := keep_cell hb1 (new_cell rfl rfl)
  have hw1 : Below w.heap.size w w1 := bw_call hb1 (bw_alloc (Below.refl _ _))
  clear hb1 KG
  go_wp2_with fail
  refine (KB.out _).mono ?_
  rintro x w2 ⟨rfl, hb2⟩
  have d0 := fun o => keep_alloc (o := o) (keep_cell hb2 c0)
  have d1 := fun o => keep_alloc (o := o) (keep_cell hb2 c1)
  have d2 := fun o => keep_alloc (o := o) (keep_cell hb2 c2)
  have d3 := fun o => keep_alloc (o := o) (keep_cell hb2 c3)
  have d4 := fun o => keep_alloc (o := o) (keep_cell hb2 c4)
  have d5 := fun o => keep_alloc (o := o) (keep_cell hb2 c5)
  have d6 := fun o => keep_alloc (o := o) (keep_cell hb2 c6)
  have d7 := fun o => keep_alloc (o := o) (keep_cell hb2 c7)
  have d8 := fun o => keep_alloc (o := o) (keep_cell hb2 c8)
  have d9 := fun o => keep_alloc (o := o) (keep_cell hb2 c9)
  have d10 := fun o => keep_alloc (o := o) (keep_cell hb2 c10)
  have f0 := fun o o2 => keep_alloc (o := o2) (d0 o)
  have f1 := fun o o2 => keep_alloc (o := o2) (d1 o)
  have f2 := fun o o2 => keep_alloc (o := o2) (d2 o)
  have f3 := fun o o2 => keep_alloc (o := o2) (d3 o)
  have f4 := fun o o2 => keep_alloc (o := o2) (d4 o)
  have f5 := fun o o2 => keep_alloc (o := o2) (d5 o)
  have f6 := fun o o2 => keep_alloc (o := o2) (d6 o)
  have f7 := fun o o2 => keep_alloc (o := o2) (d7 o)
  have f8 := fun o o2 => keep_alloc (o := o2) (d8 o)
  have f9 := fun o o2 => keep_alloc (o := o2) (d9 o)
  have f10 := fun o o2 => keep_alloc (o := o2) (d10 o)
  have hw2 : Below w.heap.size w w2 := bw_call hb2 hw1
  clear hb2 hw1 KB c0 c1 c2 c3 c4 c5 c6 c7 c8 c9 c10
  go_wp2_with fail
  refine (K1.out _).mono ?_
  rintro x w3 ⟨rfl, hb3⟩
  have x0 : w3.cell? ⟨w2.heap.size, 0, none⟩ = some (.int .i64 3) := keep_cell hb3 (keep_alloc (new_cell rfl rfl))
  have x1 : w3.cell? ⟨w2.heap.size, 1, none⟩ = some (.int .i64 gsn) := keep_cell hb3 (keep_alloc (new_cell rfl rfl))
  have x2 : w3.cell? ⟨w2.heap.size, 2, none⟩ = some (.int .i64 t) := keep_cell hb3 (keep_alloc (new_cell rfl rfl))
  have x3 : w3.cell? ⟨w2.heap.size, 3, none⟩ = some (.int .i64 prev) := keep_cell hb3 (keep_alloc (new_cell rfl rfl))
  have x4 : w3.cell? ⟨w2.heap.size, 4, none⟩ = some (.int .i64 pg) := keep_cell hb3 (keep_alloc (new_cell rfl rfl))
  have x5 : w3.cell? ⟨w2.heap.size, 5, none⟩ = some (.string key) := keep_cell hb3 (keep_alloc (new_cell rfl rfl))
  have x6 : w3.cell? ⟨w2.heap.size, 6, none⟩ = some (.bool ha) := keep_cell hb3 (keep_alloc (new_cell rfl rfl))
  have x7 : w3.cell? ⟨w2.heap.size, 7, none⟩ = some (.string sa) := keep_cell hb3 (keep_alloc (new_cell rfl rfl))
  have x8 : w3.cell? ⟨w2.heap.size, 8, none⟩ = some (.bool hb) := keep_cell hb3 (keep_alloc (new_cell rfl rfl))
  have x9 : w3.cell? ⟨w2.heap.size, 9, none⟩ = some (.string sb) := keep_cell hb3 (keep_alloc (new_cell rfl rfl))
  have x10 : w3.cell? ⟨w2.heap.size, 10, none⟩ = some (.int .i64 g) := keep_cell hb3 (keep_alloc (new_cell rfl rfl))
  have y0 : w3.cell? ⟨w2.heap.size + 1, 0, none⟩ = some (.int .i64 3) := keep_cell hb3 (new_cell (by rw [World.size_alloc]) rfl)
  have y1 : w3.cell? ⟨w2.heap.size + 1, 1, none⟩ = some (.int .i64 gsn) := keep_cell hb3 (new_cell (by rw [World.size_alloc]) rfl)
  have y2 : w3.cell? ⟨w2.heap.size + 1, 2, none⟩ = some (.int .i64 t) := keep_cell hb3 (new_cell (by rw [World.size_alloc]) rfl)
  have y3 : w3.cell? ⟨w2.heap.size + 1, 3, none⟩ = some (.int .i64 prev) := keep_cell hb3 (new_cell (by rw [World.size_alloc]) rfl)
  have y4 : w3.cell? ⟨w2.heap.size + 1, 4, none⟩ = some (.int .i64 pg) := keep_cell hb3 (new_cell (by rw [World.size_alloc]) rfl)
  have y5 : w3.cell? ⟨w2.heap.size + 1, 5, none⟩ = some (.string key) := keep_cell hb3 (new_cell (by rw [World.size_alloc]) rfl)
  have y6 : w3.cell? ⟨w2.heap.size + 1, 6, none⟩ = some (.bool ha) := keep_cell hb3 (new_cell (by rw [World.size_alloc]) rfl)
  have y7 : w3.cell? ⟨w2.heap.size + 1, 7, none⟩ = some (.string sa) := keep_cell hb3 (new_cell (by rw [World.size_alloc]) rfl)
  have y8 : w3.cell? ⟨w2.heap.size + 1, 8, none⟩ = some (.bool hb) := keep_cell hb3 (new_cell (by rw [World.size_alloc]) rfl)
  have y9 : w3.cell? ⟨w2.heap.size + 1, 9, none⟩ = some (.string sb) := keep_cell hb3 (new_cell (by rw [World.size_alloc]) rfl)
  have y10 : w3.cell? ⟨w2.heap.size + 1, 10, none⟩ = some (.int .i64 g) := keep_cell hb3 (new_cell (by rw [World.size_alloc]) rfl)
  have g0 : w3.cell? ⟨w.heap.size, 0, none⟩ = some (.int .i64 2) := keep_cell hb3 (f0 _ _)
  have yf : ∀ i, w3.frozen? ⟨w2.heap.size + 1, i, none⟩ = false := fun i => keep_frozen hb3 (by simp only [World.size_alloc]; omega) (new_frozen (by rw [World.size_alloc]))
  have hw3 : Below w.heap.size w w3 := bw_call hb3 (bw_alloc (bw_alloc hw2))
  have hlt0 : w2.heap.size + 1 < w3.heap.size := block_lt y0
  have hsz : w.heap.size ≤ w2.heap.size + 1 := Nat.le_succ_of_le hw2.size
  clear hb3 K1 d0 f0 d1 f1 d2 f2 d3 f3 d4 f4 d5 f5 d6 f6 d7 f7 d8 f8 d9 f9 d10 f10
  go_wp2_with fail
  refine (K2.out _).mono ?_
  rintro x w4 ⟨rfl, hb4⟩
  replace x0 := keep_cell hb4 x0
  replace y0 := keep_cell hb4 y0
  replace x1 := keep_cell hb4 x1
  replace y1 := keep_cell hb4 y1
  replace x2 := keep_cell hb4 x2
  replace y2 := keep_cell hb4 y2
  replace x3 := keep_cell hb4 x3
  replace y3 := keep_cell hb4 y3
  replace x4 := keep_cell hb4 x4
  replace y4 := keep_cell hb4 y4
  replace x5 := keep_cell hb4 x5
  replace y5 := keep_cell hb4 y5
  replace x6 := keep_cell hb4 x6
  replace y6 := keep_cell hb4 y6
  replace x7 := keep_cell hb4 x7
  replace y7 := keep_cell hb4 y7
  replace x8 := keep_cell hb4 x8
  replace y8 := keep_cell hb4 y8
  replace x9 := keep_cell hb4 x9
  replace y9 := keep_cell hb4 y9
  replace x10 := keep_cell hb4 x10
  replace y10 := keep_cell hb4 y10
  have hlt : w2.heap.size + 1 < w3.heap.size := hlt0
  replace yf : ∀ i, w4.frozen? ⟨w2.heap.size + 1, i, none⟩ = false := fun i => keep_frozen hb4 hlt (yf i)
  have hw4 : Below w.heap.size w w4 := bw_call hb4 hw3
  clear hb4 K2
  go_wp2_with fail
  refine (KA.out _ hw4).mono ?_
  rintro x w5 ⟨rfl, hb5⟩
  go_wp2
  go_ret
  exact ⟨rfl, bw_call hb5 hw4⟩

set_option maxHeartbeats 1000000 in
theorem recordBack_great (k g t p pg u gsn prev : Int) (key sb sa : ByteArray) (hb ha : Bool) (w : World) (hn : NameAt w) (hG : rcGreat key sb sa = true) :
    Calls Tryd.prog 5 #[.agg #[.int .i64 k, .int .i64 g, .int .i64 t, .int .i64 p, .int .i64 pg, .string key, .bool hb, .string sb, .bool ha, .string sa, .int .i64 u], .int .i64 gsn, .int .i64 prev] w fun e w' => e = .returned (.bool true) ∧ Below w.heap.size w w' := by
  have KA := Lib.hid (fun W (hW : Below w.heap.size w W) => awake_rc W (hn.below hW))
  have KG := Lib.hid (fun W => great_rc k g t p pg u key sb sa hb ha W)
  rw [hG] at KG
  clear hG hn
  go_enter Tryd.func5, Tryd.ntmps5
  go_wp2_with fail
  refine (KG.out _).mono ?_
  rintro x w1 ⟨rfl, hb1⟩
  have hw1 : Below w.heap.size w w1 := bw_call hb1 (bw_alloc (Below.refl _ _))
  go_wp2_with fail
  refine (KA.out _ hw1).mono ?_
  rintro x w5 ⟨rfl, hb5⟩
  go_wp2
  go_ret
  exact ⟨rfl, bw_call hb5 hw1⟩
theorem recordBack_walk (k g t p pg u gsn prev : Int) (key sb sa : ByteArray) (hb ha : Bool) (w : World) (hn : NameAt w) :
    Calls Tryd.prog 5 #[.agg #[.int .i64 k, .int .i64 g, .int .i64 t, .int .i64 p, .int .i64 pg, .string key, .bool hb, .string sb, .bool ha, .string sa, .int .i64 u], .int .i64 gsn, .int .i64 prev] w fun e w' => e = .returned (.bool true) ∧ Below w.heap.size w w' := by
  cases hG : rcGreat key sb sa
  · cases h : rcOk k g t p pg key hb sb ha sa u
    · by_cases hk : k = 2
      · subst hk
        exact backLaw_wrong g t p pg u gsn prev key sb sa hb ha w hn hG h
      · exact backLaw_out k g t p pg u gsn prev key sb sa hb ha w hn hG hk h
    · by_cases hk : k = 2
      · subst hk
        cases hO : rcOk 3 gsn t prev pg key ha sa hb sb g
        · exact backLaw_no g t p pg u gsn prev key sb sa hb ha w hn hG h hO
        · exact backLaw_yes g t p pg u gsn prev key sb sa hb ha w hn hG h hO
      · exact backLaw_kind k g t p pg u gsn prev key sb sa hb ha w hn hG hk h
  · exact recordBack_great k g t p pg u gsn prev key sb sa hb ha w hn hG

end Go.Proofs.YtbljeagjlmdlhaaDoor
