/-
  THE CONTRACT OF record.Back: the record that takes one back, or none.
-/
import Derived.Test.YtophbefmlfieeaaTxKn
namespace Go.Proofs.Ytophbefmlfieeaa
open Go.RowKit
theorem keep_drew {W : World} {p : Addr} {v : Value} (hc : W.cell? p = some v) : W.drew.cell? p = some v := hc
/-- A record's cells in a block. -/
def RcIn (W : World) (G : Nat) (k g t p pg u : Int) (key sb sa : ByteArray) (hb ha : Bool) : Prop :=
  W.cell? ⟨G, 0, none⟩ = some (.int .i64 k) ∧ W.cell? ⟨G, 1, none⟩ = some (.int .i64 g) ∧ W.cell? ⟨G, 2, none⟩ = some (.int .i64 t) ∧ W.cell? ⟨G, 3, none⟩ = some (.int .i64 p) ∧ W.cell? ⟨G, 4, none⟩ = some (.int .i64 pg) ∧ W.cell? ⟨G, 5, none⟩ = some (.string key) ∧ W.cell? ⟨G, 6, none⟩ = some (.bool hb) ∧ W.cell? ⟨G, 7, none⟩ = some (.string sb) ∧ W.cell? ⟨G, 8, none⟩ = some (.bool ha) ∧ W.cell? ⟨G, 9, none⟩ = some (.string sa) ∧ W.cell? ⟨G, 10, none⟩ = some (.int .i64 u)
theorem rcIn_new (W : World) (G : Nat) (k g t p pg u : Int) (key sb sa : ByteArray) (hb ha : Bool) (T : TypeId) (hG : G = W.heap.size) :
    RcIn (W.alloc (.cells #[.int .i64 k, .int .i64 g, .int .i64 t, .int .i64 p, .int .i64 pg, .string key, .bool hb, .string sb, .bool ha, .string sa, .int .i64 u] T)) G k g t p pg u key sb sa hb ha :=
  ⟨new_cell hG rfl, new_cell hG rfl, new_cell hG rfl, new_cell hG rfl, new_cell hG rfl, new_cell hG rfl, new_cell hG rfl, new_cell hG rfl, new_cell hG rfl, new_cell hG rfl, new_cell hG rfl⟩
theorem right_at (k g t p pg u : Int) (key sb sa : ByteArray) (hb ha : Bool) (G : Nat) (W : World) (h : RcIn W G k g t p pg u key sb sa hb ha) :
    Calls Try.prog 47 #[.slice (some ⟨G, 0, none⟩) 1 1] W
      fun e w' => e = .returned (.bool (rcOk k g t p pg key hb sb ha sa u)) ∧ Below W.heap.size W w' := by
  refine (right_any (some ⟨G, 0, none⟩) [⟨k, g, t, p, pg, key, hb, sb, ha, sa, u⟩] 1 W (by simp) (.inr ⟨G, 0, rfl, fun i hi => by
    match i, hi with
    | 0, _ => exact h⟩)).mono ?_
  rintro e w' ⟨rfl, hb'⟩
  exact ⟨by simp [Rc.ok], hb'⟩

def wset (W : World) (b : Nat) (F : List Value) : Nat → World
  | 0 => W
  | n + 1 => (wset W b F n).setCell ⟨b, n, none⟩ (F.getD n undef)
theorem wset_cells {W : World} {b : Nat} {F : List Value} {N : Nat} (h : ∀ i, i < N → ∃ u, W.cell? ⟨b, i, none⟩ = some u) :
    ∀ n, n ≤ N → (∀ i, i < n → (wset W b F n).cell? ⟨b, i, none⟩ = some (F.getD i undef)) ∧ (∀ i, n ≤ i → (wset W b F n).cell? ⟨b, i, none⟩ = W.cell? ⟨b, i, none⟩)
  | 0, _ => ⟨fun i hi => by omega, fun i _ => rfl⟩
  | n + 1, hn => by
    obtain ⟨h1, h2⟩ := wset_cells h n (by omega)
    have hne : ∀ i j : Nat, i ≠ j → (⟨b, i, none⟩ : Addr) ≠ ⟨b, j, none⟩ := fun i j hij e => by injection e with _ e2; exact hij e2
    obtain ⟨u, hu⟩ := h n (by omega)
    refine ⟨fun i hi => ?_, fun i hi => ?_⟩
    · by_cases hin : i = n
      · subst hin
        exact World.cell?_setCell_same _ _ _ ((h2 i (Nat.le_refl _)).trans hu)
      · show ((wset W b F n).setCell ⟨b, n, none⟩ _).cell? ⟨b, i, none⟩ = _
        rw [World.cell?_setCell_other _ _ _ _ (hne n i (fun e => hin e.symm))]
        exact h1 i (by omega)
    · show ((wset W b F n).setCell ⟨b, n, none⟩ _).cell? ⟨b, i, none⟩ = _
      rw [World.cell?_setCell_other _ _ _ _ (hne n i (by omega))]
      exact h2 i (by omega)
theorem wset_below {W w : World} {b B : Nat} {F : List Value} (hb : Below B w W) (hB : B ≤ b) : ∀ n, Below B w (wset W b F n)
  | 0 => hb
  | n + 1 => (wset_below hb hB n).setCell hB _
theorem set11 {W w : World} {b B : Nat} {u0 u1 u2 u3 u4 u5 u6 u7 u8 u9 u10 v0 v1 v2 v3 v4 v5 v6 v7 v8 v9 v10 : Value} (hb : Below B w W) (hB : B ≤ b) (c0 : W.cell? ⟨b, 0, none⟩ = some u0) (c1 : W.cell? ⟨b, 1, none⟩ = some u1) (c2 : W.cell? ⟨b, 2, none⟩ = some u2) (c3 : W.cell? ⟨b, 3, none⟩ = some u3) (c4 : W.cell? ⟨b, 4, none⟩ = some u4) (c5 : W.cell? ⟨b, 5, none⟩ = some u5) (c6 : W.cell? ⟨b, 6, none⟩ = some u6) (c7 : W.cell? ⟨b, 7, none⟩ = some u7) (c8 : W.cell? ⟨b, 8, none⟩ = some u8) (c9 : W.cell? ⟨b, 9, none⟩ = some u9) (c10 : W.cell? ⟨b, 10, none⟩ = some u10) :
    ∃ X, X = (((((((((((W.setCell ⟨b, 0, none⟩ v0).setCell ⟨b, 1, none⟩ v1).setCell ⟨b, 2, none⟩ v2).setCell ⟨b, 3, none⟩ v3).setCell ⟨b, 4, none⟩ v4).setCell ⟨b, 5, none⟩ v5).setCell ⟨b, 6, none⟩ v6).setCell ⟨b, 7, none⟩ v7).setCell ⟨b, 8, none⟩ v8).setCell ⟨b, 9, none⟩ v9).setCell ⟨b, 10, none⟩ v10) ∧ X.cell? ⟨b, 0, none⟩ = some v0 ∧ X.cell? ⟨b, 1, none⟩ = some v1 ∧ X.cell? ⟨b, 2, none⟩ = some v2 ∧ X.cell? ⟨b, 3, none⟩ = some v3 ∧ X.cell? ⟨b, 4, none⟩ = some v4 ∧ X.cell? ⟨b, 5, none⟩ = some v5 ∧ X.cell? ⟨b, 6, none⟩ = some v6 ∧ X.cell? ⟨b, 7, none⟩ = some v7 ∧ X.cell? ⟨b, 8, none⟩ = some v8 ∧ X.cell? ⟨b, 9, none⟩ = some v9 ∧ X.cell? ⟨b, 10, none⟩ = some v10 ∧ Below B w X := by
  have h : ∀ i, i < 11 → ∃ u, W.cell? ⟨b, i, none⟩ = some u := fun i hi => by
    match i, hi with
    | 0, _ => exact ⟨_, c0⟩
    | 1, _ => exact ⟨_, c1⟩
    | 2, _ => exact ⟨_, c2⟩
    | 3, _ => exact ⟨_, c3⟩
    | 4, _ => exact ⟨_, c4⟩
    | 5, _ => exact ⟨_, c5⟩
    | 6, _ => exact ⟨_, c6⟩
    | 7, _ => exact ⟨_, c7⟩
    | 8, _ => exact ⟨_, c8⟩
    | 9, _ => exact ⟨_, c9⟩
    | 10, _ => exact ⟨_, c10⟩
  obtain ⟨h1, _⟩ := wset_cells (F := [v0, v1, v2, v3, v4, v5, v6, v7, v8, v9, v10]) h 11 (Nat.le_refl _)
  exact ⟨wset W b [v0, v1, v2, v3, v4, v5, v6, v7, v8, v9, v10] 11, rfl, h1 0 (by omega), h1 1 (by omega), h1 2 (by omega), h1 3 (by omega), h1 4 (by omega), h1 5 (by omega), h1 6 (by omega), h1 7 (by omega), h1 8 (by omega), h1 9 (by omega), h1 10 (by omega), wset_below hb hB 11⟩
/-- What Back answers. -/
def rcBack (k g t p pg : Int) (key : ByteArray) (hb : Bool) (sb : ByteArray) (ha : Bool) (sa : ByteArray) (u gsn prev : Int) : Value :=
  if (k == 2) && rcOk k g t p pg key hb sb ha sa u && rcOk 3 gsn t prev pg key ha sa hb sb g then .agg #[.int .i64 3, .int .i64 gsn, .int .i64 t, .int .i64 prev, .int .i64 pg, .string key, .bool ha, .string sa, .bool hb, .string sb, .int .i64 g]
  else .agg #[.int .i64 0, .int .i64 0, .int .i64 0, .int .i64 0, .int .i64 0, .string ⟨#[]⟩, .bool false, .string ⟨#[]⟩, .bool false, .string ⟨#[]⟩, .int .i64 0]

set_option maxHeartbeats 1000000 in
theorem back_kind (k g t p pg u gsn prev : Int) (key sb sa : ByteArray) (hb ha : Bool) (w : World) (h : ¬ k = 2) :
    Calls Try.prog 76 #[.agg #[.int .i64 k, .int .i64 g, .int .i64 t, .int .i64 p, .int .i64 pg, .string key, .bool hb, .string sb, .bool ha, .string sa, .int .i64 u], .int .i64 gsn, .int .i64 prev] w fun e w' => e = .returned (.agg #[.int .i64 0, .int .i64 0, .int .i64 0, .int .i64 0, .int .i64 0, .string ⟨#[]⟩, .bool false, .string ⟨#[]⟩, .bool false, .string ⟨#[]⟩, .int .i64 0]) ∧ Below w.heap.size w w' := by
  have hk : (k == 2) = false := by rw [beq_eq_false_iff_ne]; exact h
  have hk2 : (k != 2) = true := by rw [bne_iff_ne]; exact h
  have HB : ∀ o1 o2, Below w.heap.size w ((w.alloc o1).alloc o2) := fun o1 o2 => bw_alloc (bw_alloc (Below.refl w.heap.size w))
  clear h hk
  go_enter Try.func76, Try.ntmps76
  go_wp2
  obtain ⟨c0, c1, c2, c3, c4, c5, c6, c7, c8, c9, c10⟩ := read11 (W := w.alloc (.cells #[.int .i64 k, .int .i64 g, .int .i64 t, .int .i64 p, .int .i64 pg, .string key, .bool hb, .string sb, .bool ha, .string sa, .int .i64 u] 38)) (b := w.heap.size + 1) (T := 38) (v0 := .int .i64 0) (v1 := .int .i64 0) (v2 := .int .i64 0) (v3 := .int .i64 0) (v4 := .int .i64 0) (v5 := .string ⟨#[]⟩) (v6 := .bool false) (v7 := .string ⟨#[]⟩) (v8 := .bool false) (v9 := .string ⟨#[]⟩) (v10 := .int .i64 0) (by rw [World.size_alloc])
  refine bodyPost_ret (v := .agg #[.int .i64 0, .int .i64 0, .int .i64 0, .int .i64 0, .int .i64 0, .string ⟨#[]⟩, .bool false, .string ⟨#[]⟩, .bool false, .string ⟨#[]⟩, .int .i64 0]) ?_ rfl ⟨rfl, HB _ _⟩
  simp [results, Try.results76, go_sem, c0, c1, c2, c3, c4, c5, c6, c7, c8, c9, c10]
set_option maxHeartbeats 1000000 in
theorem back_no1 (g t p pg u gsn prev : Int) (key sb sa : ByteArray) (hb ha : Bool) (w : World) (h : rcOk 2 g t p pg key hb sb ha sa u = false) :
    Calls Try.prog 76 #[.agg #[.int .i64 2, .int .i64 g, .int .i64 t, .int .i64 p, .int .i64 pg, .string key, .bool hb, .string sb, .bool ha, .string sa, .int .i64 u], .int .i64 gsn, .int .i64 prev] w fun e w' => e = .returned (.agg #[.int .i64 0, .int .i64 0, .int .i64 0, .int .i64 0, .int .i64 0, .string ⟨#[]⟩, .bool false, .string ⟨#[]⟩, .bool false, .string ⟨#[]⟩, .int .i64 0]) ∧ Below w.heap.size w w' := by
  have HR := Lib.hid (right_at 2 g t p pg u key sb sa hb ha)
  rw [h] at HR
  clear h
  go_enter Try.func76, Try.ntmps76
  go_wp2_with fail
  refine (HR.out _ _ ?_).mono ?_
  · exact rcIn_new _ _ _ _ _ _ _ _ _ _ _ _ _ _ (by simp only [World.size_alloc])
  rintro x w1 ⟨rfl, hb1⟩
  have z0 : w1.cell? ⟨w.heap.size + 1, 0, none⟩ = some (.int .i64 0) := keep_cell hb1 (keep_alloc (new_cell (by rw [World.size_alloc]) rfl))
  have z1 : w1.cell? ⟨w.heap.size + 1, 1, none⟩ = some (.int .i64 0) := keep_cell hb1 (keep_alloc (new_cell (by rw [World.size_alloc]) rfl))
  have z2 : w1.cell? ⟨w.heap.size + 1, 2, none⟩ = some (.int .i64 0) := keep_cell hb1 (keep_alloc (new_cell (by rw [World.size_alloc]) rfl))
  have z3 : w1.cell? ⟨w.heap.size + 1, 3, none⟩ = some (.int .i64 0) := keep_cell hb1 (keep_alloc (new_cell (by rw [World.size_alloc]) rfl))
  have z4 : w1.cell? ⟨w.heap.size + 1, 4, none⟩ = some (.int .i64 0) := keep_cell hb1 (keep_alloc (new_cell (by rw [World.size_alloc]) rfl))
  have z5 : w1.cell? ⟨w.heap.size + 1, 5, none⟩ = some (.string ⟨#[]⟩) := keep_cell hb1 (keep_alloc (new_cell (by rw [World.size_alloc]) rfl))
  have z6 : w1.cell? ⟨w.heap.size + 1, 6, none⟩ = some (.bool false) := keep_cell hb1 (keep_alloc (new_cell (by rw [World.size_alloc]) rfl))
  have z7 : w1.cell? ⟨w.heap.size + 1, 7, none⟩ = some (.string ⟨#[]⟩) := keep_cell hb1 (keep_alloc (new_cell (by rw [World.size_alloc]) rfl))
  have z8 : w1.cell? ⟨w.heap.size + 1, 8, none⟩ = some (.bool false) := keep_cell hb1 (keep_alloc (new_cell (by rw [World.size_alloc]) rfl))
  have z9 : w1.cell? ⟨w.heap.size + 1, 9, none⟩ = some (.string ⟨#[]⟩) := keep_cell hb1 (keep_alloc (new_cell (by rw [World.size_alloc]) rfl))
  have z10 : w1.cell? ⟨w.heap.size + 1, 10, none⟩ = some (.int .i64 0) := keep_cell hb1 (keep_alloc (new_cell (by rw [World.size_alloc]) rfl))
  have hlt : w.heap.size + 1 < w1.heap.size := block_lt z0
  have zf : ∀ i, w1.frozen? ⟨w.heap.size + 1, i, none⟩ = false := fun i => by
    refine (hb1.frozen (by simp only [World.size_alloc]; omega)).trans ?_
    rw [World.frozen?_alloc_past _ _ _ (by simp only [World.size_alloc]; omega)]
    exact World.frozen?_alloc_at _ _ _ _ (by rw [World.size_alloc])
  have hbw : Below w.heap.size w w1 := bw_call hb1 (bw_alloc (bw_alloc (bw_alloc (Below.refl _ _))))
  clear hb1
  clear HR
  go_wp2
  obtain ⟨X, hX, r0, r1, r2, r3, r4, r5, r6, r7, r8, r9, r10, hbX⟩ := set11 (v0 := .int .i64 0) (v1 := .int .i64 0) (v2 := .int .i64 0) (v3 := .int .i64 0) (v4 := .int .i64 0) (v5 := .string ⟨#[]⟩) (v6 := .bool false) (v7 := .string ⟨#[]⟩) (v8 := .bool false) (v9 := .string ⟨#[]⟩) (v10 := .int .i64 0) (hbw) (Nat.le_succ _) z0 z1 z2 z3 z4 z5 z6 z7 z8 z9 z10
  rw [← hX]
  refine bodyPost_ret (v := .agg #[.int .i64 0, .int .i64 0, .int .i64 0, .int .i64 0, .int .i64 0, .string ⟨#[]⟩, .bool false, .string ⟨#[]⟩, .bool false, .string ⟨#[]⟩, .int .i64 0]) ?_ rfl ⟨rfl, hbX⟩
  simp [results, Try.results76, go_sem, r0, r1, r2, r3, r4, r5, r6, r7, r8, r9, r10]
set_option maxHeartbeats 1000000 in
theorem back_no2 (g t p pg u gsn prev : Int) (key sb sa : ByteArray) (hb ha : Bool) (w : World) (h : rcOk 2 g t p pg key hb sb ha sa u = true) (hO : rcOk 3 gsn t prev pg key ha sa hb sb g = false) :
    Calls Try.prog 76 #[.agg #[.int .i64 2, .int .i64 g, .int .i64 t, .int .i64 p, .int .i64 pg, .string key, .bool hb, .string sb, .bool ha, .string sa, .int .i64 u], .int .i64 gsn, .int .i64 prev] w fun e w' => e = .returned (.agg #[.int .i64 0, .int .i64 0, .int .i64 0, .int .i64 0, .int .i64 0, .string ⟨#[]⟩, .bool false, .string ⟨#[]⟩, .bool false, .string ⟨#[]⟩, .int .i64 0]) ∧ Below w.heap.size w w' := by
  have HR := Lib.hid (right_at 2 g t p pg u key sb sa hb ha)
  rw [h] at HR
  have HR2 := Lib.hid (right_at 3 gsn t prev pg g key sa sb ha hb)
  rw [hO] at HR2
  clear h hO
  go_enter Try.func76, Try.ntmps76
  go_wp2_with fail
  refine (HR.out _ _ ?_).mono ?_
  · exact rcIn_new _ _ _ _ _ _ _ _ _ _ _ _ _ _ (by simp only [World.size_alloc])
  rintro x w1 ⟨rfl, hb1⟩
  have c0 : w1.cell? ⟨w.heap.size, 0, none⟩ = some (.int .i64 2) := keep_cell hb1 (keep_alloc (keep_alloc (new_cell rfl rfl)))
  have c1 : w1.cell? ⟨w.heap.size, 1, none⟩ = some (.int .i64 g) := keep_cell hb1 (keep_alloc (keep_alloc (new_cell rfl rfl)))
  have c2 : w1.cell? ⟨w.heap.size, 2, none⟩ = some (.int .i64 t) := keep_cell hb1 (keep_alloc (keep_alloc (new_cell rfl rfl)))
  have c3 : w1.cell? ⟨w.heap.size, 3, none⟩ = some (.int .i64 p) := keep_cell hb1 (keep_alloc (keep_alloc (new_cell rfl rfl)))
  have c4 : w1.cell? ⟨w.heap.size, 4, none⟩ = some (.int .i64 pg) := keep_cell hb1 (keep_alloc (keep_alloc (new_cell rfl rfl)))
  have c5 : w1.cell? ⟨w.heap.size, 5, none⟩ = some (.string key) := keep_cell hb1 (keep_alloc (keep_alloc (new_cell rfl rfl)))
  have c6 : w1.cell? ⟨w.heap.size, 6, none⟩ = some (.bool hb) := keep_cell hb1 (keep_alloc (keep_alloc (new_cell rfl rfl)))
  have c7 : w1.cell? ⟨w.heap.size, 7, none⟩ = some (.string sb) := keep_cell hb1 (keep_alloc (keep_alloc (new_cell rfl rfl)))
  have c8 : w1.cell? ⟨w.heap.size, 8, none⟩ = some (.bool ha) := keep_cell hb1 (keep_alloc (keep_alloc (new_cell rfl rfl)))
  have c9 : w1.cell? ⟨w.heap.size, 9, none⟩ = some (.string sa) := keep_cell hb1 (keep_alloc (keep_alloc (new_cell rfl rfl)))
  have c10 : w1.cell? ⟨w.heap.size, 10, none⟩ = some (.int .i64 u) := keep_cell hb1 (keep_alloc (keep_alloc (new_cell rfl rfl)))
  have d1 : ∀ o, (w1.alloc o).cell? ⟨w.heap.size, 1, none⟩ = some (.int .i64 g) := fun o => keep_alloc c1
  have d6 : ∀ o, (w1.alloc o).cell? ⟨w.heap.size, 6, none⟩ = some (.bool hb) := fun o => keep_alloc c6
  have d7 : ∀ o, (w1.alloc o).cell? ⟨w.heap.size, 7, none⟩ = some (.string sb) := fun o => keep_alloc c7
  have d8 : ∀ o, (w1.alloc o).cell? ⟨w.heap.size, 8, none⟩ = some (.bool ha) := fun o => keep_alloc c8
  have d9 : ∀ o, (w1.alloc o).cell? ⟨w.heap.size, 9, none⟩ = some (.string sa) := fun o => keep_alloc c9
  have z0 : w1.cell? ⟨w.heap.size + 1, 0, none⟩ = some (.int .i64 0) := keep_cell hb1 (keep_alloc (new_cell (by rw [World.size_alloc]) rfl))
  have z1 : w1.cell? ⟨w.heap.size + 1, 1, none⟩ = some (.int .i64 0) := keep_cell hb1 (keep_alloc (new_cell (by rw [World.size_alloc]) rfl))
  have z2 : w1.cell? ⟨w.heap.size + 1, 2, none⟩ = some (.int .i64 0) := keep_cell hb1 (keep_alloc (new_cell (by rw [World.size_alloc]) rfl))
  have z3 : w1.cell? ⟨w.heap.size + 1, 3, none⟩ = some (.int .i64 0) := keep_cell hb1 (keep_alloc (new_cell (by rw [World.size_alloc]) rfl))
  have z4 : w1.cell? ⟨w.heap.size + 1, 4, none⟩ = some (.int .i64 0) := keep_cell hb1 (keep_alloc (new_cell (by rw [World.size_alloc]) rfl))
  have z5 : w1.cell? ⟨w.heap.size + 1, 5, none⟩ = some (.string ⟨#[]⟩) := keep_cell hb1 (keep_alloc (new_cell (by rw [World.size_alloc]) rfl))
  have z6 : w1.cell? ⟨w.heap.size + 1, 6, none⟩ = some (.bool false) := keep_cell hb1 (keep_alloc (new_cell (by rw [World.size_alloc]) rfl))
  have z7 : w1.cell? ⟨w.heap.size + 1, 7, none⟩ = some (.string ⟨#[]⟩) := keep_cell hb1 (keep_alloc (new_cell (by rw [World.size_alloc]) rfl))
  have z8 : w1.cell? ⟨w.heap.size + 1, 8, none⟩ = some (.bool false) := keep_cell hb1 (keep_alloc (new_cell (by rw [World.size_alloc]) rfl))
  have z9 : w1.cell? ⟨w.heap.size + 1, 9, none⟩ = some (.string ⟨#[]⟩) := keep_cell hb1 (keep_alloc (new_cell (by rw [World.size_alloc]) rfl))
  have z10 : w1.cell? ⟨w.heap.size + 1, 10, none⟩ = some (.int .i64 0) := keep_cell hb1 (keep_alloc (new_cell (by rw [World.size_alloc]) rfl))
  have hlt : w.heap.size + 1 < w1.heap.size := block_lt z0
  have zf : ∀ i, w1.frozen? ⟨w.heap.size + 1, i, none⟩ = false := fun i => by
    refine (hb1.frozen (by simp only [World.size_alloc]; omega)).trans ?_
    rw [World.frozen?_alloc_past _ _ _ (by simp only [World.size_alloc]; omega)]
    exact World.frozen?_alloc_at _ _ _ _ (by rw [World.size_alloc])
  have hbw : Below w.heap.size w w1 := bw_call hb1 (bw_alloc (bw_alloc (bw_alloc (Below.refl _ _))))
  clear hb1
  clear HR
  go_wp2_with fail
  go_region
  go_wp2_with fail
  go_region
  go_wp2_with fail
  refine (HR2.out _ _ ?_).mono ?_
  · exact rcIn_new _ _ _ _ _ _ _ _ _ _ _ _ _ _ (by simp only [World.size_alloc])
  rintro x w2 ⟨rfl, hb2⟩
  have e0 : w2.cell? ⟨w1.heap.size, 0, none⟩ = some (.int .i64 3) := keep_cell hb2 (keep_drew (keep_drew (keep_alloc (new_cell rfl rfl))))
  have e1 : w2.cell? ⟨w1.heap.size, 1, none⟩ = some (.int .i64 gsn) := keep_cell hb2 (keep_drew (keep_drew (keep_alloc (new_cell rfl rfl))))
  have e2 : w2.cell? ⟨w1.heap.size, 2, none⟩ = some (.int .i64 t) := keep_cell hb2 (keep_drew (keep_drew (keep_alloc (new_cell rfl rfl))))
  have e3 : w2.cell? ⟨w1.heap.size, 3, none⟩ = some (.int .i64 prev) := keep_cell hb2 (keep_drew (keep_drew (keep_alloc (new_cell rfl rfl))))
  have e4 : w2.cell? ⟨w1.heap.size, 4, none⟩ = some (.int .i64 pg) := keep_cell hb2 (keep_drew (keep_drew (keep_alloc (new_cell rfl rfl))))
  have e5 : w2.cell? ⟨w1.heap.size, 5, none⟩ = some (.string key) := keep_cell hb2 (keep_drew (keep_drew (keep_alloc (new_cell rfl rfl))))
  have e6 : w2.cell? ⟨w1.heap.size, 6, none⟩ = some (.bool ha) := keep_cell hb2 (keep_drew (keep_drew (keep_alloc (new_cell rfl rfl))))
  have e7 : w2.cell? ⟨w1.heap.size, 7, none⟩ = some (.string sa) := keep_cell hb2 (keep_drew (keep_drew (keep_alloc (new_cell rfl rfl))))
  have e8 : w2.cell? ⟨w1.heap.size, 8, none⟩ = some (.bool hb) := keep_cell hb2 (keep_drew (keep_drew (keep_alloc (new_cell rfl rfl))))
  have e9 : w2.cell? ⟨w1.heap.size, 9, none⟩ = some (.string sb) := keep_cell hb2 (keep_drew (keep_drew (keep_alloc (new_cell rfl rfl))))
  have e10 : w2.cell? ⟨w1.heap.size, 10, none⟩ = some (.int .i64 g) := keep_cell hb2 (keep_drew (keep_drew (keep_alloc (new_cell rfl rfl))))
  have y0 : w2.cell? ⟨w.heap.size + 1, 0, none⟩ = some (.int .i64 0) := keep_cell hb2 (keep_drew (keep_drew (keep_alloc (keep_alloc z0))))
  have y1 : w2.cell? ⟨w.heap.size + 1, 1, none⟩ = some (.int .i64 0) := keep_cell hb2 (keep_drew (keep_drew (keep_alloc (keep_alloc z1))))
  have y2 : w2.cell? ⟨w.heap.size + 1, 2, none⟩ = some (.int .i64 0) := keep_cell hb2 (keep_drew (keep_drew (keep_alloc (keep_alloc z2))))
  have y3 : w2.cell? ⟨w.heap.size + 1, 3, none⟩ = some (.int .i64 0) := keep_cell hb2 (keep_drew (keep_drew (keep_alloc (keep_alloc z3))))
  have y4 : w2.cell? ⟨w.heap.size + 1, 4, none⟩ = some (.int .i64 0) := keep_cell hb2 (keep_drew (keep_drew (keep_alloc (keep_alloc z4))))
  have y5 : w2.cell? ⟨w.heap.size + 1, 5, none⟩ = some (.string ⟨#[]⟩) := keep_cell hb2 (keep_drew (keep_drew (keep_alloc (keep_alloc z5))))
  have y6 : w2.cell? ⟨w.heap.size + 1, 6, none⟩ = some (.bool false) := keep_cell hb2 (keep_drew (keep_drew (keep_alloc (keep_alloc z6))))
  have y7 : w2.cell? ⟨w.heap.size + 1, 7, none⟩ = some (.string ⟨#[]⟩) := keep_cell hb2 (keep_drew (keep_drew (keep_alloc (keep_alloc z7))))
  have y8 : w2.cell? ⟨w.heap.size + 1, 8, none⟩ = some (.bool false) := keep_cell hb2 (keep_drew (keep_drew (keep_alloc (keep_alloc z8))))
  have y9 : w2.cell? ⟨w.heap.size + 1, 9, none⟩ = some (.string ⟨#[]⟩) := keep_cell hb2 (keep_drew (keep_drew (keep_alloc (keep_alloc z9))))
  have y10 : w2.cell? ⟨w.heap.size + 1, 10, none⟩ = some (.int .i64 0) := keep_cell hb2 (keep_drew (keep_drew (keep_alloc (keep_alloc z10))))
  have yf : ∀ i, w2.frozen? ⟨w.heap.size + 1, i, none⟩ = false := fun i => by
    refine (hb2.frozen (by simp only [World.size_alloc, World.drew]; omega)).trans ?_
    rw [World.frozen?_drew, World.frozen?_drew, World.frozen?_alloc_past _ _ _ (by simp only [World.size_alloc]; omega), World.frozen?_alloc_past _ _ _ hlt]
    exact zf i
  have hbx : Below w.heap.size w w2 := bw_call hb2 (bw_drew (bw_drew (bw_alloc (bw_alloc hbw))))
  clear hb2 c0 c1 c2 c3 c4 c5 c6 c7 c8 c9 c10 z0 z1 z2 z3 z4 z5 z6 z7 z8 z9 z10 d1 d6 d7 d8 d9 zf
  clear HR2
  go_wp2
  obtain ⟨X, hX, r0, r1, r2, r3, r4, r5, r6, r7, r8, r9, r10, hbX⟩ := set11 (v0 := .int .i64 0) (v1 := .int .i64 0) (v2 := .int .i64 0) (v3 := .int .i64 0) (v4 := .int .i64 0) (v5 := .string ⟨#[]⟩) (v6 := .bool false) (v7 := .string ⟨#[]⟩) (v8 := .bool false) (v9 := .string ⟨#[]⟩) (v10 := .int .i64 0) (hbx) (Nat.le_succ _) y0 y1 y2 y3 y4 y5 y6 y7 y8 y9 y10
  rw [← hX]
  refine bodyPost_ret (v := .agg #[.int .i64 0, .int .i64 0, .int .i64 0, .int .i64 0, .int .i64 0, .string ⟨#[]⟩, .bool false, .string ⟨#[]⟩, .bool false, .string ⟨#[]⟩, .int .i64 0]) ?_ rfl ⟨rfl, hbX⟩
  simp [results, Try.results76, go_sem, r0, r1, r2, r3, r4, r5, r6, r7, r8, r9, r10]
set_option maxHeartbeats 1000000 in
theorem back_yes (g t p pg u gsn prev : Int) (key sb sa : ByteArray) (hb ha : Bool) (w : World) (h : rcOk 2 g t p pg key hb sb ha sa u = true) (hO : rcOk 3 gsn t prev pg key ha sa hb sb g = true) :
    Calls Try.prog 76 #[.agg #[.int .i64 2, .int .i64 g, .int .i64 t, .int .i64 p, .int .i64 pg, .string key, .bool hb, .string sb, .bool ha, .string sa, .int .i64 u], .int .i64 gsn, .int .i64 prev] w fun e w' => e = .returned (.agg #[.int .i64 3, .int .i64 gsn, .int .i64 t, .int .i64 prev, .int .i64 pg, .string key, .bool ha, .string sa, .bool hb, .string sb, .int .i64 g]) ∧ Below w.heap.size w w' := by
  have HR := Lib.hid (right_at 2 g t p pg u key sb sa hb ha)
  rw [h] at HR
  have HR2 := Lib.hid (right_at 3 gsn t prev pg g key sa sb ha hb)
  rw [hO] at HR2
  clear h hO
  go_enter Try.func76, Try.ntmps76
  go_wp2_with fail
  refine (HR.out _ _ ?_).mono ?_
  · exact rcIn_new _ _ _ _ _ _ _ _ _ _ _ _ _ _ (by simp only [World.size_alloc])
  rintro x w1 ⟨rfl, hb1⟩
  have c0 : w1.cell? ⟨w.heap.size, 0, none⟩ = some (.int .i64 2) := keep_cell hb1 (keep_alloc (keep_alloc (new_cell rfl rfl)))
  have c1 : w1.cell? ⟨w.heap.size, 1, none⟩ = some (.int .i64 g) := keep_cell hb1 (keep_alloc (keep_alloc (new_cell rfl rfl)))
  have c2 : w1.cell? ⟨w.heap.size, 2, none⟩ = some (.int .i64 t) := keep_cell hb1 (keep_alloc (keep_alloc (new_cell rfl rfl)))
  have c3 : w1.cell? ⟨w.heap.size, 3, none⟩ = some (.int .i64 p) := keep_cell hb1 (keep_alloc (keep_alloc (new_cell rfl rfl)))
  have c4 : w1.cell? ⟨w.heap.size, 4, none⟩ = some (.int .i64 pg) := keep_cell hb1 (keep_alloc (keep_alloc (new_cell rfl rfl)))
  have c5 : w1.cell? ⟨w.heap.size, 5, none⟩ = some (.string key) := keep_cell hb1 (keep_alloc (keep_alloc (new_cell rfl rfl)))
  have c6 : w1.cell? ⟨w.heap.size, 6, none⟩ = some (.bool hb) := keep_cell hb1 (keep_alloc (keep_alloc (new_cell rfl rfl)))
  have c7 : w1.cell? ⟨w.heap.size, 7, none⟩ = some (.string sb) := keep_cell hb1 (keep_alloc (keep_alloc (new_cell rfl rfl)))
  have c8 : w1.cell? ⟨w.heap.size, 8, none⟩ = some (.bool ha) := keep_cell hb1 (keep_alloc (keep_alloc (new_cell rfl rfl)))
  have c9 : w1.cell? ⟨w.heap.size, 9, none⟩ = some (.string sa) := keep_cell hb1 (keep_alloc (keep_alloc (new_cell rfl rfl)))
  have c10 : w1.cell? ⟨w.heap.size, 10, none⟩ = some (.int .i64 u) := keep_cell hb1 (keep_alloc (keep_alloc (new_cell rfl rfl)))
  have d1 : ∀ o, (w1.alloc o).cell? ⟨w.heap.size, 1, none⟩ = some (.int .i64 g) := fun o => keep_alloc c1
  have d6 : ∀ o, (w1.alloc o).cell? ⟨w.heap.size, 6, none⟩ = some (.bool hb) := fun o => keep_alloc c6
  have d7 : ∀ o, (w1.alloc o).cell? ⟨w.heap.size, 7, none⟩ = some (.string sb) := fun o => keep_alloc c7
  have d8 : ∀ o, (w1.alloc o).cell? ⟨w.heap.size, 8, none⟩ = some (.bool ha) := fun o => keep_alloc c8
  have d9 : ∀ o, (w1.alloc o).cell? ⟨w.heap.size, 9, none⟩ = some (.string sa) := fun o => keep_alloc c9
  have z0 : w1.cell? ⟨w.heap.size + 1, 0, none⟩ = some (.int .i64 0) := keep_cell hb1 (keep_alloc (new_cell (by rw [World.size_alloc]) rfl))
  have z1 : w1.cell? ⟨w.heap.size + 1, 1, none⟩ = some (.int .i64 0) := keep_cell hb1 (keep_alloc (new_cell (by rw [World.size_alloc]) rfl))
  have z2 : w1.cell? ⟨w.heap.size + 1, 2, none⟩ = some (.int .i64 0) := keep_cell hb1 (keep_alloc (new_cell (by rw [World.size_alloc]) rfl))
  have z3 : w1.cell? ⟨w.heap.size + 1, 3, none⟩ = some (.int .i64 0) := keep_cell hb1 (keep_alloc (new_cell (by rw [World.size_alloc]) rfl))
  have z4 : w1.cell? ⟨w.heap.size + 1, 4, none⟩ = some (.int .i64 0) := keep_cell hb1 (keep_alloc (new_cell (by rw [World.size_alloc]) rfl))
  have z5 : w1.cell? ⟨w.heap.size + 1, 5, none⟩ = some (.string ⟨#[]⟩) := keep_cell hb1 (keep_alloc (new_cell (by rw [World.size_alloc]) rfl))
  have z6 : w1.cell? ⟨w.heap.size + 1, 6, none⟩ = some (.bool false) := keep_cell hb1 (keep_alloc (new_cell (by rw [World.size_alloc]) rfl))
  have z7 : w1.cell? ⟨w.heap.size + 1, 7, none⟩ = some (.string ⟨#[]⟩) := keep_cell hb1 (keep_alloc (new_cell (by rw [World.size_alloc]) rfl))
  have z8 : w1.cell? ⟨w.heap.size + 1, 8, none⟩ = some (.bool false) := keep_cell hb1 (keep_alloc (new_cell (by rw [World.size_alloc]) rfl))
  have z9 : w1.cell? ⟨w.heap.size + 1, 9, none⟩ = some (.string ⟨#[]⟩) := keep_cell hb1 (keep_alloc (new_cell (by rw [World.size_alloc]) rfl))
  have z10 : w1.cell? ⟨w.heap.size + 1, 10, none⟩ = some (.int .i64 0) := keep_cell hb1 (keep_alloc (new_cell (by rw [World.size_alloc]) rfl))
  have hlt : w.heap.size + 1 < w1.heap.size := block_lt z0
  have zf : ∀ i, w1.frozen? ⟨w.heap.size + 1, i, none⟩ = false := fun i => by
    refine (hb1.frozen (by simp only [World.size_alloc]; omega)).trans ?_
    rw [World.frozen?_alloc_past _ _ _ (by simp only [World.size_alloc]; omega)]
    exact World.frozen?_alloc_at _ _ _ _ (by rw [World.size_alloc])
  have hbw : Below w.heap.size w w1 := bw_call hb1 (bw_alloc (bw_alloc (bw_alloc (Below.refl _ _))))
  clear hb1
  clear HR
  go_wp2_with fail
  go_region
  go_wp2_with fail
  go_region
  go_wp2_with fail
  refine (HR2.out _ _ ?_).mono ?_
  · exact rcIn_new _ _ _ _ _ _ _ _ _ _ _ _ _ _ (by simp only [World.size_alloc])
  rintro x w2 ⟨rfl, hb2⟩
  have e0 : w2.cell? ⟨w1.heap.size, 0, none⟩ = some (.int .i64 3) := keep_cell hb2 (keep_drew (keep_drew (keep_alloc (new_cell rfl rfl))))
  have e1 : w2.cell? ⟨w1.heap.size, 1, none⟩ = some (.int .i64 gsn) := keep_cell hb2 (keep_drew (keep_drew (keep_alloc (new_cell rfl rfl))))
  have e2 : w2.cell? ⟨w1.heap.size, 2, none⟩ = some (.int .i64 t) := keep_cell hb2 (keep_drew (keep_drew (keep_alloc (new_cell rfl rfl))))
  have e3 : w2.cell? ⟨w1.heap.size, 3, none⟩ = some (.int .i64 prev) := keep_cell hb2 (keep_drew (keep_drew (keep_alloc (new_cell rfl rfl))))
  have e4 : w2.cell? ⟨w1.heap.size, 4, none⟩ = some (.int .i64 pg) := keep_cell hb2 (keep_drew (keep_drew (keep_alloc (new_cell rfl rfl))))
  have e5 : w2.cell? ⟨w1.heap.size, 5, none⟩ = some (.string key) := keep_cell hb2 (keep_drew (keep_drew (keep_alloc (new_cell rfl rfl))))
  have e6 : w2.cell? ⟨w1.heap.size, 6, none⟩ = some (.bool ha) := keep_cell hb2 (keep_drew (keep_drew (keep_alloc (new_cell rfl rfl))))
  have e7 : w2.cell? ⟨w1.heap.size, 7, none⟩ = some (.string sa) := keep_cell hb2 (keep_drew (keep_drew (keep_alloc (new_cell rfl rfl))))
  have e8 : w2.cell? ⟨w1.heap.size, 8, none⟩ = some (.bool hb) := keep_cell hb2 (keep_drew (keep_drew (keep_alloc (new_cell rfl rfl))))
  have e9 : w2.cell? ⟨w1.heap.size, 9, none⟩ = some (.string sb) := keep_cell hb2 (keep_drew (keep_drew (keep_alloc (new_cell rfl rfl))))
  have e10 : w2.cell? ⟨w1.heap.size, 10, none⟩ = some (.int .i64 g) := keep_cell hb2 (keep_drew (keep_drew (keep_alloc (new_cell rfl rfl))))
  have y0 : w2.cell? ⟨w.heap.size + 1, 0, none⟩ = some (.int .i64 0) := keep_cell hb2 (keep_drew (keep_drew (keep_alloc (keep_alloc z0))))
  have y1 : w2.cell? ⟨w.heap.size + 1, 1, none⟩ = some (.int .i64 0) := keep_cell hb2 (keep_drew (keep_drew (keep_alloc (keep_alloc z1))))
  have y2 : w2.cell? ⟨w.heap.size + 1, 2, none⟩ = some (.int .i64 0) := keep_cell hb2 (keep_drew (keep_drew (keep_alloc (keep_alloc z2))))
  have y3 : w2.cell? ⟨w.heap.size + 1, 3, none⟩ = some (.int .i64 0) := keep_cell hb2 (keep_drew (keep_drew (keep_alloc (keep_alloc z3))))
  have y4 : w2.cell? ⟨w.heap.size + 1, 4, none⟩ = some (.int .i64 0) := keep_cell hb2 (keep_drew (keep_drew (keep_alloc (keep_alloc z4))))
  have y5 : w2.cell? ⟨w.heap.size + 1, 5, none⟩ = some (.string ⟨#[]⟩) := keep_cell hb2 (keep_drew (keep_drew (keep_alloc (keep_alloc z5))))
  have y6 : w2.cell? ⟨w.heap.size + 1, 6, none⟩ = some (.bool false) := keep_cell hb2 (keep_drew (keep_drew (keep_alloc (keep_alloc z6))))
  have y7 : w2.cell? ⟨w.heap.size + 1, 7, none⟩ = some (.string ⟨#[]⟩) := keep_cell hb2 (keep_drew (keep_drew (keep_alloc (keep_alloc z7))))
  have y8 : w2.cell? ⟨w.heap.size + 1, 8, none⟩ = some (.bool false) := keep_cell hb2 (keep_drew (keep_drew (keep_alloc (keep_alloc z8))))
  have y9 : w2.cell? ⟨w.heap.size + 1, 9, none⟩ = some (.string ⟨#[]⟩) := keep_cell hb2 (keep_drew (keep_drew (keep_alloc (keep_alloc z9))))
  have y10 : w2.cell? ⟨w.heap.size + 1, 10, none⟩ = some (.int .i64 0) := keep_cell hb2 (keep_drew (keep_drew (keep_alloc (keep_alloc z10))))
  have yf : ∀ i, w2.frozen? ⟨w.heap.size + 1, i, none⟩ = false := fun i => by
    refine (hb2.frozen (by simp only [World.size_alloc, World.drew]; omega)).trans ?_
    rw [World.frozen?_drew, World.frozen?_drew, World.frozen?_alloc_past _ _ _ (by simp only [World.size_alloc]; omega), World.frozen?_alloc_past _ _ _ hlt]
    exact zf i
  have hbx : Below w.heap.size w w2 := bw_call hb2 (bw_drew (bw_drew (bw_alloc (bw_alloc hbw))))
  clear hb2 c0 c1 c2 c3 c4 c5 c6 c7 c8 c9 c10 z0 z1 z2 z3 z4 z5 z6 z7 z8 z9 z10 d1 d6 d7 d8 d9 zf
  clear HR2
  go_wp2
  obtain ⟨X, hX, r0, r1, r2, r3, r4, r5, r6, r7, r8, r9, r10, hbX⟩ := set11 (v0 := .int .i64 3) (v1 := .int .i64 gsn) (v2 := .int .i64 t) (v3 := .int .i64 prev) (v4 := .int .i64 pg) (v5 := .string key) (v6 := .bool ha) (v7 := .string sa) (v8 := .bool hb) (v9 := .string sb) (v10 := .int .i64 g) hbx (Nat.le_succ _) y0 y1 y2 y3 y4 y5 y6 y7 y8 y9 y10
  rw [← hX]
  refine bodyPost_ret (v := .agg #[.int .i64 3, .int .i64 gsn, .int .i64 t, .int .i64 prev, .int .i64 pg, .string key, .bool ha, .string sa, .bool hb, .string sb, .int .i64 g]) ?_ rfl ⟨rfl, hbX⟩
  simp [results, Try.results76, go_sem, r0, r1, r2, r3, r4, r5, r6, r7, r8, r9, r10]
theorem back_any (k g t p pg u gsn prev : Int) (key sb sa : ByteArray) (hb ha : Bool) (w : World) :
    Calls Try.prog 76 #[.agg #[.int .i64 k, .int .i64 g, .int .i64 t, .int .i64 p, .int .i64 pg, .string key, .bool hb, .string sb, .bool ha, .string sa, .int .i64 u], .int .i64 gsn, .int .i64 prev] w fun e w' => e = .returned (rcBack k g t p pg key hb sb ha sa u gsn prev) ∧ Below w.heap.size w w' := by
  by_cases hk : k = 2
  · subst hk
    cases h : rcOk 2 g t p pg key hb sb ha sa u
    · refine (back_no1 g t p pg u gsn prev key sb sa hb ha w h).mono ?_
      rintro e w' ⟨rfl, hb'⟩
      exact ⟨by unfold rcBack; rw [h]; rfl, hb'⟩
    · cases hO : rcOk 3 gsn t prev pg key ha sa hb sb g
      · refine (back_no2 g t p pg u gsn prev key sb sa hb ha w h hO).mono ?_
        rintro e w' ⟨rfl, hb'⟩
        exact ⟨by unfold rcBack; rw [h, hO]; rfl, hb'⟩
      · refine (back_yes g t p pg u gsn prev key sb sa hb ha w h hO).mono ?_
        rintro e w' ⟨rfl, hb'⟩
        exact ⟨by unfold rcBack; rw [h, hO]; rfl, hb'⟩
  · refine (back_kind k g t p pg u gsn prev key sb sa hb ha w hk).mono ?_
    rintro e w' ⟨rfl, hb'⟩
    have hk2 : (k == 2) = false := by rw [beq_eq_false_iff_ne]; exact hk
    exact ⟨by unfold rcBack; rw [hk2]; rfl, hb'⟩
end Go.Proofs.Ytophbefmlfieeaa
