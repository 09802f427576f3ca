/-
  THE CONTRACT OF txn's New: a table that knows none.
-/
import Derived.Test.YtophbefmlfieeaaTxAwake
namespace Go.Proofs.Ytophbefmlfieeaa
open Go.RowKit
theorem tnew_any (W : World) : Calls Try.prog 9 #[] W fun x w' => ∃ t M, x = .returned (.pointer (some ⟨t, 0, none⟩)) ∧ TbAt w' W.heap.size t M 0 (fun _ => none) ∧ Below W.heap.size W w' ∧ M < t := by
  refine (tnew_raw W).mono ?_
  rintro x w' ⟨rfl, rfl⟩
  have hb1 := (Below.refl W.heap.size W).alloc (Nat.le_refl _) (.map #[] 0)
  have hb2 := hb1.alloc hb1.size (.cells #[.map (some W.heap.size)] 70)
  have hs1 : (W.alloc (.map #[] 0)).heap.size = W.heap.size + 1 := World.size_alloc _ _
  have hm := (FrAt.made W).of_block (((Below.refl _ _).alloc (Nat.le_refl _) (.cells #[.map (some W.heap.size)] 70)).block W.heap.size (by rw [hs1]; omega))
  exact ⟨W.heap.size + 1, W.heap.size, rfl, ⟨new_cell hs1.symm rfl, hm, fun i K d e => (by cases e), fun i j x y k _ e => (by cases e), fun i x e => (by cases e), by omega, by omega, Nat.le_refl _⟩, hb2, by omega⟩
theorem own_none {M j : Nat} (h : TbOwn M (fun _ => none) j) : j = M := by
  rcases h with e | ⟨i, x, e, _⟩
  · exact e
  · cases e
end Go.Proofs.Ytophbefmlfieeaa
