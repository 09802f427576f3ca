/-
  THE STATE OF THE WALK OF record.Decode: the taker, the record, the answer, each in a block of its own.
-/
import Derived.Test.YtlggbbaigcnpjaaDoorRcTakeVal
namespace Go.Proofs.YtlggbbaigcnpjaaDoor
open Go.RowKit

theorem textOf_rest {s : ByteArray} {b : Bool} {K : Nat} : (textOf s b K).2.1.size ≤ s.size := by
  unfold textOf
  split
  · exact Nat.le_refl _
  · show (s.extract _ _).size ≤ _
    rw [ByteArray.size_extract]; omega
theorem valOf_rest {s : ByteArray} {b : Bool} : (valOf s b).2.1.size ≤ s.size := by
  unfold valOf
  split
  · exact numOf_rest
  · exact Nat.le_trans textOf_rest numOf_rest
def zeroF : List Value := [.int .i64 0, .int .i64 0, .int .i64 0, .int .i64 0, .int .i64 0, .string ⟨#[]⟩, .bool false, .string ⟨#[]⟩, .bool false, .string ⟨#[]⟩, .int .i64 0]
structure DecSt (w W : World) (s : ByteArray) (b : Bool) (F : List Value) : Prop where
  tk0 : W.cell? ⟨w.heap.size + 1, 0, none⟩ = some (.string s)
  tk1 : W.cell? ⟨w.heap.size + 1, 1, none⟩ = some (.bool b)
  tkf : ∀ i, W.frozen? ⟨w.heap.size + 1, i, none⟩ = false
  rcd : ∀ i, i < 11 → W.cell? ⟨w.heap.size + 1 + 1, i, none⟩ = some (F.getD i undef)
  rcdf : ∀ i, W.frozen? ⟨w.heap.size + 1 + 1, i, none⟩ = false
  out : ∀ i, i < 11 → W.cell? ⟨w.heap.size, i, none⟩ = some (zeroF.getD i undef)
  outf : ∀ i, W.frozen? ⟨w.heap.size, i, none⟩ = false
  bel : Below w.heap.size w W
theorem DecSt.call {w W X : World} {s r : ByteArray} {b c : Bool} {F : List Value} (h : DecSt w W s b F) (P : TkPost (w.heap.size + 1) W X r c) : DecSt w X r c F where
  tk0 := P.cell0
  tk1 := P.cell1
  tkf := P.froz
  rcd := fun i hi => P.keep _ _ (by show w.heap.size + 1 + 1 ≠ w.heap.size + 1; omega) (h.rcd i hi)
  rcdf := fun i => (P.keepf ⟨w.heap.size + 1 + 1, i, none⟩ (block_lt (p := ⟨w.heap.size + 1 + 1, 0, none⟩) (h.rcd 0 (by omega)))).trans (h.rcdf i)
  out := fun i hi => P.keep _ _ (by show w.heap.size ≠ w.heap.size + 1; omega) (h.out i hi)
  outf := fun i => (P.keepf ⟨w.heap.size, i, none⟩ (block_lt (p := ⟨w.heap.size, 0, none⟩) (h.out 0 (by omega)))).trans (h.outf i)
  bel := P.bel _ _ h.bel (Nat.le_succ _)
theorem DecSt.quiet {w W X : World} {s : ByteArray} {b : Bool} {F : List Value} (h : DecSt w W s b F) (P : Below W.heap.size W X) : DecSt w X s b F where
  tk0 := keep_cell P h.tk0
  tk1 := keep_cell P h.tk1
  tkf := fun i => (P.frozen (p := ⟨w.heap.size + 1, i, none⟩) (block_lt (p := ⟨w.heap.size + 1, 0, none⟩) h.tk0)).trans (h.tkf i)
  rcd := fun i hi => keep_cell P (h.rcd i hi)
  rcdf := fun i => (P.frozen (p := ⟨w.heap.size + 1 + 1, i, none⟩) (block_lt (p := ⟨w.heap.size + 1 + 1, 0, none⟩) (h.rcd 0 (by omega)))).trans (h.rcdf i)
  out := fun i hi => keep_cell P (h.out i hi)
  outf := fun i => (P.frozen (p := ⟨w.heap.size, i, none⟩) (block_lt (p := ⟨w.heap.size, 0, none⟩) (h.out 0 (by omega)))).trans (h.outf i)
  bel := h.bel.trans (P.mono h.bel.size)
theorem DecSt.set {w W : World} {s : ByteArray} {b : Bool} {F : List Value} (h : DecSt w W s b F) (hF : F.length = 11) (j : Nat) (hj : j < 11) (v : Value) : DecSt w (W.setCell ⟨w.heap.size + 1 + 1, j, none⟩ v) s b (F.set j v) where
  tk0 := by rw [World.cell?_setCell_other _ _ _ _ (fun e => by injection e with e1 _; omega)]; exact h.tk0
  tk1 := by rw [World.cell?_setCell_other _ _ _ _ (fun e => by injection e with e1 _; omega)]; exact h.tk1
  tkf := fun i => by rw [World.frozen?_setCell]; exact h.tkf i
  rcd := fun i hi => by
    by_cases e : j = i
    · subst e
      rw [World.cell?_setCell_same _ _ _ (h.rcd j hj)]
      simp [List.getD_eq_getElem?_getD, hF, hj]
    · rw [World.cell?_setCell_other _ _ _ _ (fun x => by injection x with _ e2; exact e e2), h.rcd i hi]
      simp [List.getD_eq_getElem?_getD, e]
  rcdf := fun i => by rw [World.frozen?_setCell]; exact h.rcdf i
  out := fun i hi => by rw [World.cell?_setCell_other _ _ _ _ (fun e => by injection e with e1 _; omega)]; exact h.out i hi
  outf := fun i => by rw [World.frozen?_setCell]; exact h.outf i
  bel := h.bel.setCell (by show w.heap.size ≤ w.heap.size + 1 + 1; omega) _
theorem DecSt.start (w : World) (s : ByteArray) (gsn : Int) (T0 T1 T2 : TypeId) :
    DecSt w (((w.alloc (.cells #[.int .i64 0, .int .i64 0, .int .i64 0, .int .i64 0, .int .i64 0, .string ⟨#[]⟩, .bool false, .string ⟨#[]⟩, .bool false, .string ⟨#[]⟩, .int .i64 0] T0)).alloc (.cells #[.string s, .bool false] T1)).alloc (.cells #[.int .i64 0, .int .i64 gsn, .int .i64 0, .int .i64 0, .int .i64 0, .string ⟨#[]⟩, .bool false, .string ⟨#[]⟩, .bool false, .string ⟨#[]⟩, .int .i64 0] T2)) s false [.int .i64 0, .int .i64 gsn, .int .i64 0, .int .i64 0, .int .i64 0, .string ⟨#[]⟩, .bool false, .string ⟨#[]⟩, .bool false, .string ⟨#[]⟩, .int .i64 0] where
  tk0 := keep_alloc (new_cell (by rw [World.size_alloc]) rfl)
  tk1 := keep_alloc (new_cell (by rw [World.size_alloc]) rfl)
  tkf := fun i => by
    rw [World.frozen?_alloc_past _ _ _ (by rw [World.size_alloc, World.size_alloc]; omega)]
    exact World.frozen?_alloc_at _ _ _ _ (by rw [World.size_alloc])
  rcd := fun i hi => by
    match i, hi with
    | 0, _ => exact new_cell (by rw [World.size_alloc, World.size_alloc]) rfl
    | 1, _ => exact new_cell (by rw [World.size_alloc, World.size_alloc]) rfl
    | 2, _ => exact new_cell (by rw [World.size_alloc, World.size_alloc]) rfl
    | 3, _ => exact new_cell (by rw [World.size_alloc, World.size_alloc]) rfl
    | 4, _ => exact new_cell (by rw [World.size_alloc, World.size_alloc]) rfl
    | 5, _ => exact new_cell (by rw [World.size_alloc, World.size_alloc]) rfl
    | 6, _ => exact new_cell (by rw [World.size_alloc, World.size_alloc]) rfl
    | 7, _ => exact new_cell (by rw [World.size_alloc, World.size_alloc]) rfl
    | 8, _ => exact new_cell (by rw [World.size_alloc, World.size_alloc]) rfl
    | 9, _ => exact new_cell (by rw [World.size_alloc, World.size_alloc]) rfl
    | 10, _ => exact new_cell (by rw [World.size_alloc, World.size_alloc]) rfl
  rcdf := fun i => World.frozen?_alloc_at _ _ _ _ (by rw [World.size_alloc, World.size_alloc])
  out := fun i hi => by
    match i, hi with
    | 0, _ => exact keep_alloc (keep_alloc (new_cell rfl rfl))
    | 1, _ => exact keep_alloc (keep_alloc (new_cell rfl rfl))
    | 2, _ => exact keep_alloc (keep_alloc (new_cell rfl rfl))
    | 3, _ => exact keep_alloc (keep_alloc (new_cell rfl rfl))
    | 4, _ => exact keep_alloc (keep_alloc (new_cell rfl rfl))
    | 5, _ => exact keep_alloc (keep_alloc (new_cell rfl rfl))
    | 6, _ => exact keep_alloc (keep_alloc (new_cell rfl rfl))
    | 7, _ => exact keep_alloc (keep_alloc (new_cell rfl rfl))
    | 8, _ => exact keep_alloc (keep_alloc (new_cell rfl rfl))
    | 9, _ => exact keep_alloc (keep_alloc (new_cell rfl rfl))
    | 10, _ => exact keep_alloc (keep_alloc (new_cell rfl rfl))
  outf := fun i => by
    rw [World.frozen?_alloc_past _ _ _ (by rw [World.size_alloc, World.size_alloc]; omega), World.frozen?_alloc_past _ _ _ (by rw [World.size_alloc]; omega)]
    exact World.frozen?_alloc_at _ _ _ _ rfl
  bel := bw_alloc (bw_alloc (bw_alloc (Below.refl _ _)))
end Go.Proofs.YtlggbbaigcnpjaaDoor
