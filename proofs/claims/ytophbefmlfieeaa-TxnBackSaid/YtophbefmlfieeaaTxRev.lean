/-
  THE CONTRACT OF slices.Reverse of records: by the shelf's, laid at this translation.
-/
import Derived.Test.YtophbefmlfieeaaTxClone
import Derived.Test.YtophbefmlfieeaaLooseShelf
namespace Go.Proofs.Ytophbefmlfieeaa
open Go.RowKit Go.Sort
instance : Inhabited Rc := ⟨noRc⟩
theorem flat_rcs (l : List Rc) : flatK Rc.cells 11 l.toArray = (rcsC l).toArray := by
  refine ext_get! (by simp [rcsC_len]) fun t ht => ?_
  have ht' : t < l.length * 11 := by simpa using ht
  rw [get_flatK _ _ _ _ (by simpa using ht')]
  have hi : t / 11 < l.length := by omega
  have hg := rcsC_get l (t / 11) (t % 11) hi (Nat.mod_lt _ (by omega))
  rw [show t / 11 * 11 + t % 11 = t by omega] at hg
  have e1 : (rcsC l).toArray[t]! = ((rcsC l)[t]?).getD default := by
    rw [Array.getElem!_eq_getD]; simp [Array.getD_eq_getD_getElem?]
  have e2 : l.toArray[t / 11]! = l.getD (t / 11) noRc := by
    rw [Array.getElem!_eq_getD]; simp [Array.getD_eq_getD_getElem?, List.getD_eq_getElem?_getD, hi]
  rw [e1, e2, hg]
  simp [List.getElem!_eq_getElem?_getD]
theorem rec_holds {W : World} {B g c : Nat} {l : List Rc} (h : RecR W B (.slice (some ⟨g, 0, none⟩) l.length c) l) : HoldsK Rc.cells 11 W g 0 l.toArray := by
  unfold HoldsK
  rw [flat_rcs]
  intro j hj
  have hj' : j < (rcsC l).length := by simpa using hj
  rcases h.2 with ⟨e, _⟩ | ⟨g2, cap, cur, e, _, hb, hnc, _, hs, ht⟩
  · cases e
  · injection e with e _ e3
    injection e with e
    injection e with e
    subst e e3
    have hjl : j < l.length * 11 := by rw [← rcsC_len]; exact hj'
    have hjc : j < cur.size := by rw [hs]; omega
    have hget : (rcsC l)[j]? = cur[j]? := by rw [← ht, List.getElem?_take_of_lt hjl, Array.getElem?_toList]
    rw [Nat.zero_add]
    constructor
    · have hc := World.ownsRow.cellAt h j (by omega)
      rw [hc, show (rcsC l).toArray[j]! = ((rcsC l)[j]?).getD default by rw [Array.getElem!_eq_getD]; simp [Array.getD_eq_getD_getElem?]]
      rw [List.getElem?_eq_getElem hj']; rfl
    · exact World.ownsRow.frozenAt h j
theorem take_putK (cur : Array Value) (ts : List Value) (h : ts.length ≤ cur.size) : (putCells id 0 ts.toArray cur).toList.take ts.length = ts := by
  apply List.ext_getElem?
  intro j
  by_cases hj : j < ts.length
  · rw [List.getElem?_take_of_lt hj, Array.getElem?_toList]
    simp [putCells, hj, show j < cur.size by omega]
  · rw [List.getElem?_take_eq_none (by omega), List.getElem?_eq_none (by omega)]
theorem rev_rcs {W : World} {B g c : Nat} {l : List Rc} (h : RecR W B (.slice (some ⟨g, 0, none⟩) l.length c) l) (hl : l.length ≤ 100000) :
    Calls Try.prog 51 #[.slice (some ⟨g, 0, none⟩) l.length c] W fun x w' => x = .returned (.tuple #[]) ∧ RecR w' B (.slice (some ⟨g, 0, none⟩) l.length c) l.reverse ∧ W.grownBy w' (some g) := by
  have K := AnyQ.slices_Reverse Try.reverseA 11 Try.isAgg38 Try.sizeOf38 Rc.cells (fun _ => rfl) (fun y v hv => rcC_one y v hv) g 0 c l.toArray W (rec_holds h) (by simp; omega)
  simp only [List.size_toArray] at K
  refine K.mono ?_
  rintro x w' ⟨rfl, n, rfl⟩
  refine ⟨rfl, ?_, ⟨rfl, rfl, rfl, by simp [putRowK], fun k hk hne => ?_⟩⟩
  · have hlen := rcsC_len l.reverse
    rcases h.2 with ⟨e, _⟩ | ⟨g2, cap, cur, e, hB, hb, hnc, hcm, hs, ht⟩
    · cases e
    · injection e with e _ e3
      injection e with e
      injection e with e
      subst e e3
      unfold RecR putRowK
      rw [show l.toArray.reverse = l.reverse.toArray by simp, flat_rcs]
      refine ⟨by rw [hlen], .inr ⟨g, c, putCells id 0 (rcsC l.reverse).toArray cur, by rw [List.length_reverse], hB, ?_, by rw [List.length_reverse]; exact hnc, hcm, by simp [putCells, hs], ?_⟩⟩
      · simp [putRow, mapBlock, Sort.ahead, Array.getElem?_modify, hb, onCells]
      · have := take_putK cur (rcsC l.reverse) (by rw [hlen, List.length_reverse, hs]; omega)
        rw [hlen] at this
        exact this
  · have : g ≠ k := fun e => hne (by rw [e])
    simp [putRowK, putRow, mapBlock, Sort.ahead, Array.getElem?_modify, this]
end Go.Proofs.Ytophbefmlfieeaa
