/-
  THE MODEL OF law 09 IN MEMORY; its has, its next.
-/
import Derived.Test.YtcdkloohdafbpaaCkRisesPure
import Derived.Test.YtcdkloohdafbpaaCkPeeksLaw
import Derived.StillTailTactics
namespace Go.Proofs.Ytcdkloohdafbpaa
open Go.RowKit
/-- A model in memory: block M, its streams' row R. -/
structure ModelAt (W : World) (M R n : Nat) (ms : List Int) (vp vt : Value) (top : Int) : Prop where
  c0 : W.cell? ⟨M, 0, none⟩ = some (.slice (some ⟨R, 0, none⟩) n n)
  c1 : W.cell? ⟨M, 1, none⟩ = some vp
  c2 : W.cell? ⟨M, 2, none⟩ = some vt
  c3 : W.cell? ⟨M, 3, none⟩ = some (.int .i64 top)
  mf : ∀ i, W.frozen? ⟨M, i, none⟩ = false
  rc : ∀ i, i < n → W.cell? ⟨R, i, none⟩ = some (.int .i64 (ms.getD i 0))
  rf : ∀ i, W.frozen? ⟨R, i, none⟩ = false
  ml : ms.length = n
  mr : M ≠ R
  n1 : 1 ≤ n ∧ n ≤ 8
section
variable {W W' : World} {M R n : Nat} {ms : List Int} {vp vt : Value} {top : Int}
theorem ModelAt.of_blocks (h : ModelAt W M R n ms vp vt top) (hM : W'.heap[M]? = W.heap[M]?) (hR : W'.heap[R]? = W.heap[R]?) : ModelAt W' M R n ms vp vt top :=
  { h with
    c0 := (World.cell?_of_block (a := ⟨M, 0, none⟩) hM).trans h.c0, c1 := (World.cell?_of_block (a := ⟨M, 1, none⟩) hM).trans h.c1, c2 := (World.cell?_of_block (a := ⟨M, 2, none⟩) hM).trans h.c2, c3 := (World.cell?_of_block (a := ⟨M, 3, none⟩) hM).trans h.c3,
    mf := fun i => (World.frozen?_of_block (a := ⟨M, i, none⟩) hM).trans (h.mf i), rc := fun i hi => (World.cell?_of_block (a := ⟨R, i, none⟩) hR).trans (h.rc i hi), rf := fun i => (World.frozen?_of_block (a := ⟨R, i, none⟩) hR).trans (h.rf i) }
theorem ModelAt.lts (h : ModelAt W M R n ms vp vt top) : M < W.heap.size ∧ R < W.heap.size := ⟨block_lt' h.c0, block_lt' (h.rc 0 (by have := h.n1; omega))⟩
theorem ModelAt.below (h : ModelAt W M R n ms vp vt top) (hb : Below W.heap.size W W') : ModelAt W' M R n ms vp vt top :=
  h.of_blocks (hb.block _ h.lts.1) (hb.block _ h.lts.2)
theorem ModelAt.fr {C S P T : Nat} (h : ModelAt W M R n ms vp vt top) (hf : Fr C S P T W W') (h1 : M ≠ C ∧ M ≠ S ∧ M ≠ P ∧ M ≠ T) (h2 : R ≠ C ∧ R ≠ S ∧ R ≠ P ∧ R ≠ T) : ModelAt W' M R n ms vp vt top :=
  h.of_blocks (hf.block _ h.lts.1 h1.1 h1.2.1 h1.2.2.1 h1.2.2.2) (hf.block _ h.lts.2 h2.1 h2.2.1 h2.2.2.1 h2.2.2.2)
/-- A cell of the model is written. -/
theorem ModelAt.setM (h : ModelAt W M R n ms vp vt top) (i : Nat) (v : Value) : ModelAt (W.setCell ⟨M, i, none⟩ v) M R n ms (if i = 1 then v else vp) (if i = 2 then v else vt) top ∨ i = 0 ∨ i = 3 := by
  by_cases h0 : i = 0
  · exact .inr (.inl h0)
  · by_cases h3 : i = 3
    · exact .inr (.inr h3)
    · left
      have ho : ∀ j, j ≠ i → (W.setCell ⟨M, i, none⟩ v).cell? ⟨M, j, none⟩ = W.cell? ⟨M, j, none⟩ := fun j hj => World.cell?_setCell_other _ _ _ _ (fun e => by injection e with _ e2; exact hj e2.symm)
      have hr : ∀ j, (W.setCell ⟨M, i, none⟩ v).cell? ⟨R, j, none⟩ = W.cell? ⟨R, j, none⟩ := fun j => World.cell?_setCell_other _ _ _ _ (fun e => by injection e with e1 _; exact h.mr e1)
      refine { h with c0 := (ho 0 (fun e => h0 e.symm)).trans h.c0, c1 := ?_, c2 := ?_, c3 := (ho 3 (fun e => h3 e.symm)).trans h.c3, mf := fun j => by rw [World.frozen?_setCell]; exact h.mf j, rc := fun j hj => (hr j).trans (h.rc j hj), rf := fun j => by rw [World.frozen?_setCell]; exact h.rf j }
      · by_cases e : i = 1
        · subst e; rw [if_pos rfl]; exact World.cell?_setCell_same _ _ _ h.c1
        · rw [if_neg e]; exact (ho 1 (fun x => e x.symm)).trans h.c1
      · by_cases e : i = 2
        · subst e; rw [if_pos rfl]; exact World.cell?_setCell_same _ _ _ h.c2
        · rw [if_neg e]; exact (ho 2 (fun x => e x.symm)).trans h.c2
theorem ModelAt.set1 (h : ModelAt W M R n ms vp vt top) (v : Value) : ModelAt (W.setCell ⟨M, 1, none⟩ v) M R n ms v vt top := by
  rcases h.setM 1 v with h' | h' | h'
  · exact h'
  · omega
  · omega
theorem ModelAt.set2 (h : ModelAt W M R n ms vp vt top) (v : Value) : ModelAt (W.setCell ⟨M, 2, none⟩ v) M R n ms vp v top := by
  rcases h.setM 2 v with h' | h' | h'
  · exact h'
  · omega
  · omega
theorem ModelAt.set3 (h : ModelAt W M R n ms vp vt top) (z : Int) : ModelAt (W.setCell ⟨M, 3, none⟩ (.int .i64 z)) M R n ms vp vt z := by
  have ho : ∀ j, j ≠ 3 → (W.setCell ⟨M, 3, none⟩ (.int .i64 z)).cell? ⟨M, j, none⟩ = W.cell? ⟨M, j, none⟩ := fun j hj => World.cell?_setCell_other _ _ _ _ (fun e => by injection e with _ e2; exact hj e2.symm)
  have hr : ∀ j, (W.setCell ⟨M, 3, none⟩ (.int .i64 z)).cell? ⟨R, j, none⟩ = W.cell? ⟨R, j, none⟩ := fun j => World.cell?_setCell_other _ _ _ _ (fun e => by injection e with e1 _; exact h.mr e1)
  exact { h with c0 := (ho 0 (by decide)).trans h.c0, c1 := (ho 1 (by decide)).trans h.c1, c2 := (ho 2 (by decide)).trans h.c2, c3 := World.cell?_setCell_same _ _ _ h.c3, mf := fun j => by rw [World.frozen?_setCell]; exact h.mf j, rc := fun j hj => (hr j).trans (h.rc j hj), rf := fun j => by rw [World.frozen?_setCell]; exact h.rf j }
theorem ModelAt.setR (h : ModelAt W M R n ms vp vt top) (i : Nat) (hi : i < n) (z : Int) : ModelAt (W.setCell ⟨R, i, none⟩ (.int .i64 z)) M R n (ms.set i z) vp vt top := by
  have hm : ∀ j, (W.setCell ⟨R, i, none⟩ (.int .i64 z)).cell? ⟨M, j, none⟩ = W.cell? ⟨M, j, none⟩ := fun j => World.cell?_setCell_other _ _ _ _ (fun e => by injection e with e1 _; exact h.mr e1.symm)
  have hgd : ∀ j, (ms.set i z).getD j 0 = if j = i then z else ms.getD j 0 := fun j => by
    simp only [List.getD_eq_getElem?_getD, List.getElem?_set]
    by_cases e : i = j
    · subst e; simp [h.ml, hi]
    · rw [if_neg e, if_neg (fun x => e x.symm)]
  exact { h with
    c0 := (hm 0).trans h.c0, c1 := (hm 1).trans h.c1, c2 := (hm 2).trans h.c2, c3 := (hm 3).trans h.c3, mf := fun j => by rw [World.frozen?_setCell]; exact h.mf j
    rc := fun j hj => by
      rw [hgd]
      by_cases e : j = i
      · subst e; rw [if_pos rfl]; exact World.cell?_setCell_same _ _ _ (h.rc j hj)
      · rw [if_neg e, World.cell?_setCell_other _ _ _ _ (fun x => by injection x with _ x2; exact e x2.symm)]; exact h.rc j hj
    rf := fun j => by rw [World.frozen?_setCell]; exact h.rf j
    ml := by rw [List.length_set]; exact h.ml }
end
section
variable {W : World} {M R n : Nat} {ms : List Int} {vp vt : Value} {top : Int}
set_option maxHeartbeats 1000000 in
theorem mhas_any (h : ModelAt W M R n ms vp vt top) (a : Option Addr) (l : List Int) (cap : Nat) (hl : l.length ≤ maxLen) (ha : IntsAt W a l) :
    Calls Try.prog 24 #[.pointer (some ⟨M, 0, none⟩), .slice a l.length cap] W fun e w' => e = .returned (.bool (hasL n l)) ∧ Below W.heap.size W w' := by
  unfold maxLen at hl
  have HM := Lib.hid (fun W' (hW : Below W.heap.size W W') => (h.below hW).c0)
  have HA := Lib.hid (fun W' (hW : Below W.heap.size W W') => ha.below hW); clear ha h
  go_enter Try.func24, Try.ntmps24
  go_wp2
  go_loopw [5] (fun i wr => ∃ j : Nat, j ≤ l.length ∧ i = .int .i64 j ∧ Hid (∀ m, m < j → hasB n (l.getD m 0) = true) ∧ Hid (Below W.heap.size W wr)) (fun i _ => l.length - (intOf i).toNat)
  case atStart => exact ⟨0, Nat.zero_le _, rfl, fun m hm => by omega, Below.refl _ _⟩
  case round =>
    obtain ⟨j, hj, rfl, hso, hbr⟩ := hrel
    by_cases hlt : j < l.length
    · obtain ⟨b, off, rfl, hc⟩ := (HA.out _ hbr.out).cell hlt
      have hm0 := HM.out _ hbr.out
      have HN := Lib.hid (fun h => hasL_no (n := n) hlt h)
      have HY : Hid (hasB n (l.getD j 0) = true → ∀ m, m < j + 1 → hasB n (l.getD m 0) = true) := fun hz m hm => by
        rcases Nat.lt_or_ge m j with h' | h'
        · exact hso.out m h'
        · have : m = j := by omega
          rw [this]; exact hz
      generalize l.getD j 0 = z at hc HN HY
      have HB : Hid (hasB n z = (decide (0 ≤ z) && decide (z < (n : Int)))) := rfl
      by_cases h0 : 0 ≤ z
      · have hd0 : decide (z < 0) = false := decide_eq_false (by omega)
        by_cases hz : z < (n : Int)
        · have HT : Hid (∀ m, m < j + 1 → hasB n (l.getD m 0) = true) := HY.out (by rw [HB.out, decide_eq_true h0, decide_eq_true hz]; rfl)
          go_wp2_with fail
          go_quiet (fail)
          go_wp2
          go_roundw
          case rel => exact ⟨j + 1, by omega, by go_num, HT, below_drewN hbr.out _⟩
          case measure => simp [intOf]; omega
        · have HF := Lib.hid (HN.out (by rw [HB.out, decide_eq_false hz]; simp))
          have hz : (n : Int) ≤ z := by omega
          go_wp2_with fail
          go_quiet (fail)
          go_wp2
          go_ret
          exact ⟨ret_bool HF.out.symm, below_drewN hbr.out _⟩
      · have HF := Lib.hid (HN.out (by rw [HB.out, decide_eq_false h0]; rfl))
        have hd0 : decide (z < 0) = true := decide_eq_true (by omega)
        have h0 : z < 0 := by omega
        go_wp2_with fail
        go_quiet (fail)
        go_wp2
        go_ret
        exact ⟨ret_bool HF.out.symm, below_drewN hbr.out _⟩
    · have HT := Lib.hid (hasL_all (n := n) (fun m hm => hso.out m (by omega)))
      go_wp2
      go_ret
      exact ⟨ret_bool HT.out.symm, hbr.out⟩
end
end Go.Proofs.Ytcdkloohdafbpaa
