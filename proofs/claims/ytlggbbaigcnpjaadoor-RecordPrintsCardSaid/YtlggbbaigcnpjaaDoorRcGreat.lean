/-
  THE CONTRACTS OF quadrigalaw04.great AND record.Back.
-/
import Derived.Test.YtlggbbaigcnpjaaDoorRcWake
import Derived.BigRegion
namespace Go.Proofs.YtlggbbaigcnpjaaDoor
open Go.RowKit

def rcGreat (key sb sa : ByteArray) : Bool := decide ((100 : Int) < (key.size : Int)) || decide ((100 : Int) < (sb.size : Int)) || decide ((100 : Int) < (sa.size : Int))
theorem rcGreat_no {key sb sa : ByteArray} (h : rcGreat key sb sa = false) : key.size ≤ 100 ∧ sb.size ≤ 100 ∧ sa.size ≤ 100 := by
  unfold rcGreat at h
  simp only [Bool.or_eq_false_iff, decide_eq_false_iff_not] at h
  omega
theorem great_rc (k g t p pg u : Int) (key sb sa : ByteArray) (hb ha : Bool) (w : World) :
    Calls Tryd.prog 5 #[.agg #[.int .i64 k, .int .i64 g, .int .i64 t, .int .i64 p, .int .i64 pg, .string key, .bool hb, .string sb, .bool ha, .string sa, .int .i64 u]] w fun e w' => e = .returned (.bool (rcGreat key sb sa)) ∧ Below w.heap.size w w' := by
  have HG : Hid (rcGreat key sb sa = (decide ((100 : Int) < (key.size : Int)) || decide ((100 : Int) < (sb.size : Int)) || decide ((100 : Int) < (sa.size : Int)))) := rfl
  generalize rcGreat key sb sa = G at HG ⊢
  by_cases h1 : (100 : Int) < (key.size : Int)
  · have d1 := Lib.hid (decide_eq_true h1)
    go_enter Tryd.func5, Tryd.ntmps5
    go_wp2
    go_ret
    exact ⟨by rw [HG.out, d1.out]; rfl, bw_alloc (Below.refl _ _)⟩
  · have d1 := Lib.hid (decide_eq_false h1)
    have h1 : (key.size : Int) ≤ 100 := by omega
    by_cases h2 : (100 : Int) < (sb.size : Int)
    · have d2 := Lib.hid (decide_eq_true h2)
      go_enter Tryd.func5, Tryd.ntmps5
      go_wp2
      go_ret
      exact ⟨by rw [HG.out, d1.out, d2.out]; rfl, bw_alloc (Below.refl _ _)⟩
    · have d2 := Lib.hid (decide_eq_false h2)
      have h2 : (sb.size : Int) ≤ 100 := by omega
      by_cases h3 : (100 : Int) < (sa.size : Int)
      · have d3 := Lib.hid (decide_eq_true h3)
        go_enter Tryd.func5, Tryd.ntmps5
        go_wp2
        go_ret
        exact ⟨by rw [HG.out, d1.out, d2.out, d3.out]; rfl, bw_alloc (Below.refl _ _)⟩
      · have d3 := Lib.hid (decide_eq_false h3)
        have h3 : (sa.size : Int) ≤ 100 := by omega
        go_enter Tryd.func5, Tryd.ntmps5
        go_wp2
        go_ret
        exact ⟨by rw [HG.out, d1.out, d2.out, d3.out]; rfl, bw_alloc (Below.refl _ _)⟩

/-- Stores into a block's first cells, one behind the other. -/
def wset (W : World) (b : Nat) (F : List Value) : Nat → World
  | 0 => W
  | n + 1 => (wset W b F n).setCell ⟨b, n, none⟩ (F.getD n undef)
theorem wset_cells {W : World} {b : Nat} {F : List Value} {N : Nat} (h : ∀ i, i < N → ∃ u, W.cell? ⟨b, i, none⟩ = some u) :
    ∀ n, n ≤ N → (∀ i, i < n → (wset W b F n).cell? ⟨b, i, none⟩ = some (F.getD i undef)) ∧ (∀ i, n ≤ i → (wset W b F n).cell? ⟨b, i, none⟩ = W.cell? ⟨b, i, none⟩)
  | 0, _ => ⟨fun i hi => by omega, fun i _ => rfl⟩
  | n + 1, hn => by
    obtain ⟨h1, h2⟩ := wset_cells h n (by omega)
    have hne : ∀ i j : Nat, i ≠ j → (⟨b, i, none⟩ : Addr) ≠ ⟨b, j, none⟩ := fun i j hij e => by injection e with _ e2; exact hij e2
    obtain ⟨u, hu⟩ := h n (by omega)
    refine ⟨fun i hi => ?_, fun i hi => ?_⟩
    · by_cases hin : i = n
      · subst hin
        exact World.cell?_setCell_same _ _ _ ((h2 i (Nat.le_refl _)).trans hu)
      · show ((wset W b F n).setCell ⟨b, n, none⟩ _).cell? ⟨b, i, none⟩ = _
        rw [World.cell?_setCell_other _ _ _ _ (hne n i (fun e => hin e.symm))]
        exact h1 i (by omega)
    · show ((wset W b F n).setCell ⟨b, n, none⟩ _).cell? ⟨b, i, none⟩ = _
      rw [World.cell?_setCell_other _ _ _ _ (hne n i (by omega))]
      exact h2 i (by omega)
theorem wset_below {W w : World} {b B : Nat} {F : List Value} (hb : Below B w W) (hB : B ≤ b) : ∀ n, Below B w (wset W b F n)
  | 0 => hb
  | n + 1 => (wset_below hb hB n).setCell hB _
theorem set11 {W w : World} {b B : Nat} {u0 u1 u2 u3 u4 u5 u6 u7 u8 u9 u10 v0 v1 v2 v3 v4 v5 v6 v7 v8 v9 v10 : Value} (hb : Below B w W) (hB : B ≤ b) (c0 : W.cell? ⟨b, 0, none⟩ = some u0) (c1 : W.cell? ⟨b, 1, none⟩ = some u1) (c2 : W.cell? ⟨b, 2, none⟩ = some u2) (c3 : W.cell? ⟨b, 3, none⟩ = some u3) (c4 : W.cell? ⟨b, 4, none⟩ = some u4) (c5 : W.cell? ⟨b, 5, none⟩ = some u5) (c6 : W.cell? ⟨b, 6, none⟩ = some u6) (c7 : W.cell? ⟨b, 7, none⟩ = some u7) (c8 : W.cell? ⟨b, 8, none⟩ = some u8) (c9 : W.cell? ⟨b, 9, none⟩ = some u9) (c10 : W.cell? ⟨b, 10, none⟩ = some u10) :
    ∃ X, X = (((((((((((W.setCell ⟨b, 0, none⟩ v0).setCell ⟨b, 1, none⟩ v1).setCell ⟨b, 2, none⟩ v2).setCell ⟨b, 3, none⟩ v3).setCell ⟨b, 4, none⟩ v4).setCell ⟨b, 5, none⟩ v5).setCell ⟨b, 6, none⟩ v6).setCell ⟨b, 7, none⟩ v7).setCell ⟨b, 8, none⟩ v8).setCell ⟨b, 9, none⟩ v9).setCell ⟨b, 10, none⟩ v10) ∧ X.cell? ⟨b, 0, none⟩ = some v0 ∧ X.cell? ⟨b, 1, none⟩ = some v1 ∧ X.cell? ⟨b, 2, none⟩ = some v2 ∧ X.cell? ⟨b, 3, none⟩ = some v3 ∧ X.cell? ⟨b, 4, none⟩ = some v4 ∧ X.cell? ⟨b, 5, none⟩ = some v5 ∧ X.cell? ⟨b, 6, none⟩ = some v6 ∧ X.cell? ⟨b, 7, none⟩ = some v7 ∧ X.cell? ⟨b, 8, none⟩ = some v8 ∧ X.cell? ⟨b, 9, none⟩ = some v9 ∧ X.cell? ⟨b, 10, none⟩ = some v10 ∧ Below B w X := by
  have h : ∀ i, i < 11 → ∃ u, W.cell? ⟨b, i, none⟩ = some u := fun i hi => by
    match i, hi with
    | 0, _ => exact ⟨_, c0⟩
    | 1, _ => exact ⟨_, c1⟩
    | 2, _ => exact ⟨_, c2⟩
    | 3, _ => exact ⟨_, c3⟩
    | 4, _ => exact ⟨_, c4⟩
    | 5, _ => exact ⟨_, c5⟩
    | 6, _ => exact ⟨_, c6⟩
    | 7, _ => exact ⟨_, c7⟩
    | 8, _ => exact ⟨_, c8⟩
    | 9, _ => exact ⟨_, c9⟩
    | 10, _ => exact ⟨_, c10⟩
  obtain ⟨h1, _⟩ := wset_cells (F := [v0, v1, v2, v3, v4, v5, v6, v7, v8, v9, v10]) h 11 (Nat.le_refl _)
  exact ⟨wset W b [v0, v1, v2, v3, v4, v5, v6, v7, v8, v9, v10] 11, rfl, h1 0 (by omega), h1 1 (by omega), h1 2 (by omega), h1 3 (by omega), h1 4 (by omega), h1 5 (by omega), h1 6 (by omega), h1 7 (by omega), h1 8 (by omega), h1 9 (by omega), h1 10 (by omega), wset_below hb hB 11⟩
end Go.Proofs.YtlggbbaigcnpjaaDoor
