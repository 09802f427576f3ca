/-
  THE CONTRACT OF Space.note.
-/
import Derived.Test.YtjjbdkgnkieliaaSpAdd
namespace Go.Proofs.Ytjjbdkgnkieliaa
open Go.RowKit Go.Maps Go.ChangeMaps Go.MapKept Go.WideElems
section
variable {W W' : World} {S T A n : Nat} {o : Int → Option Nat} {g : Int → Int → Int} {a : Int → Int}
theorem upd2_same (t p z : Int) : upd2 g t p z t = updI (g t) p z := by unfold upd2; rw [if_pos rfl]
theorem upd2_other {t t' : Int} (p z : Int) (h : t' ≠ t) : upd2 g t p z t' = g t' := by unfold upd2; rw [if_neg h]
/-- What add does to a transaction's own tally. -/
theorem SpIn.addOwn (h : SpIn W S T A n o g a) {t p z : Int} {b : Nat} (hb : o t = some b) (hg : W.grownBy W' (some b)) (ht : TalAt W' b (n + 1) (updI (g t) p z)) (hz : 0 ≤ z ∧ z ≤ n + 1) : SpIn W' S T A (n + 1) o (upd2 g t p z) a := by
  obtain ⟨b1, b2, b3⟩ := h.tb t b hb
  obtain ⟨l1, l2, l3, l4⟩ := h.lts
  have key : ∀ k, k < W.heap.size → k ≠ b → W'.heap[k]? = W.heap[k]? := fun k hk hx => hg.block k hk (by intro e; injection e with e; exact hx e)
  refine { h with
    c0 := (World.cell?_of_block (a := ⟨S, 0, none⟩) (key S l1 (fun e => b1 e.symm))).trans h.c0
    c1 := (World.cell?_of_block (a := ⟨S, 1, none⟩) (key S l1 (fun e => b1 e.symm))).trans h.c1
    ot := (h.ot.of_block (key T l2 (fun e => b2 e.symm))).mono (Nat.le_succ _)
    al := (h.al.of_block (key A l3 (fun e => b3 e.symm))).mono (Nat.le_succ _)
    inn := fun t' b' e => ?_
    non := fun t' e q => ?_
    gb := fun t' q => ?_
    ab := fun q => ⟨(h.ab q).1, by have := (h.ab q).2; omega⟩ }
  · by_cases e1 : t' = t
    · subst e1
      rw [hb] at e; injection e with e; subst e
      rw [upd2_same]; exact ht
    · rw [upd2_other _ _ e1]
      exact ((h.inn t' b' e).of_block (key b' (l4 t' b' e) (fun q => e1 (h.inj t' t b' e (q ▸ hb))))).mono (Nat.le_succ _)
  · have e1 : t' ≠ t := fun q => by subst q; rw [hb] at e; cases e
    rw [upd2_other _ _ e1]; exact h.non t' e q
  · by_cases e1 : t' = t
    · subst e1
      rw [upd2_same]; unfold updI; split
      · exact ⟨hz.1, by omega⟩
      · have := h.gb t' q; exact ⟨this.1, by omega⟩
    · rw [upd2_other _ _ e1]; have := h.gb t' q; exact ⟨this.1, by omega⟩
/-- .. and to the tally of all. -/
theorem SpIn.addAll (h : SpIn W S T A n o g a) {p z : Int} (hg : W.grownBy W' (some A)) (ht : TalAt W' A (n + 1) (updI a p z)) (hz : 0 ≤ z ∧ z ≤ n + 1) : SpIn W' S T A (n + 1) o g (updI a p z) := by
  obtain ⟨l1, l2, l3, l4⟩ := h.lts
  have key : ∀ k, k < W.heap.size → k ≠ A → W'.heap[k]? = W.heap[k]? := fun k hk hx => hg.block k hk (by intro e; injection e with e; exact hx e)
  refine { h with
    c0 := (World.cell?_of_block (a := ⟨S, 0, none⟩) (key S l1 h.sa)).trans h.c0
    c1 := (World.cell?_of_block (a := ⟨S, 1, none⟩) (key S l1 h.sa)).trans h.c1
    ot := (h.ot.of_block (key T l2 h.ta)).mono (Nat.le_succ _)
    al := ht
    inn := fun t' b' e => ((h.inn t' b' e).of_block (key b' (l4 t' b' e) (h.tb t' b' e).2.2)).mono (Nat.le_succ _)
    gb := fun t' q => ⟨(h.gb t' q).1, by have := (h.gb t' q).2; omega⟩
    ab := fun q => ?_ }
  unfold updI; split
  · exact ⟨hz.1, by omega⟩
  · have := h.ab q; exact ⟨this.1, by omega⟩
/-- A transaction's own tally is put there. -/
theorem SpIn.putOwn (h : SpIn W S T A n o g a) {t : Int} {b : Nat} (hn : o t = none) (hb : TalAt W b 0 (fun _ => 0)) (hS : b ≠ S) (hT : b ≠ T) (hA : b ≠ A) (hnew : ∀ t', o t' ≠ some b) (hg : W.grownBy W' (some T)) (ht : OutAt W' T (n + 1) (updO o t (some b))) : SpIn W' S T A (n + 1) (updO o t (some b)) g a := by
  obtain ⟨l1, l2, l3, l4⟩ := h.lts
  have key : ∀ k, k < W.heap.size → k ≠ T → W'.heap[k]? = W.heap[k]? := fun k hk hx => hg.block k hk (by intro e; injection e with e; exact hx e)
  have hx : ∀ t' b', updO o t (some b) t' = some b' → (t' = t ∧ b' = b) ∨ (t' ≠ t ∧ o t' = some b') := fun t' b' e => by
    unfold updO at e; split at e
    · rename_i e1; injection e with e; exact .inl ⟨e1, e.symm⟩
    · rename_i e1; exact .inr ⟨e1, e⟩
  have gt : g t = fun _ => 0 := by funext q; exact h.non t hn q
  refine { h with
    c0 := (World.cell?_of_block (a := ⟨S, 0, none⟩) (key S l1 h.st)).trans h.c0
    c1 := (World.cell?_of_block (a := ⟨S, 1, none⟩) (key S l1 h.st)).trans h.c1
    ot := ht
    al := (h.al.of_block (key A l3 (fun e => h.ta e.symm))).mono (Nat.le_succ _)
    inn := fun t' b' e => ?_
    non := fun t' e q => ?_
    gb := fun t' q => ⟨(h.gb t' q).1, by have := (h.gb t' q).2; omega⟩
    ab := fun q => ⟨(h.ab q).1, by have := (h.ab q).2; omega⟩
    tb := fun t' b' e => ?_
    inj := fun t1 t2 b' e1 e2 => ?_ }
  · rcases hx t' b' e with ⟨rfl, rfl⟩ | ⟨_, e⟩
    · rw [gt]; exact (hb.of_block (key b' hb.lt hT)).mono (Nat.zero_le _)
    · exact ((h.inn t' b' e).of_block (key b' (l4 t' b' e) (h.tb t' b' e).2.1)).mono (Nat.le_succ _)
  · unfold updO at e; split at e
    · cases e
    · exact h.non t' e q
  · rcases hx t' b' e with ⟨rfl, rfl⟩ | ⟨_, e⟩
    · exact ⟨hS, hT, hA⟩
    · exact h.tb t' b' e
  · rcases hx t1 b' e1 with ⟨q1, q2⟩ | ⟨_, k1⟩ <;> rcases hx t2 b' e2 with ⟨q3, q4⟩ | ⟨_, k2⟩
    · rw [q1, q3]
    · exact absurd (q2 ▸ k2) (hnew t2)
    · exact absurd (q4 ▸ k1) (hnew t1)
    · exact h.inj t1 t2 b' k1 k2
/-- A transaction that needs nothing is struck. -/
theorem SpIn.strike (h : SpIn W S T A n o g a) {t : Int} (hz : ∀ q, g t q = 0) (hg : W.grownBy W' (some T)) (ht : OutAt W' T n (updO o t none)) : SpIn W' S T A n (updO o t none) g a := by
  obtain ⟨l1, l2, l3, l4⟩ := h.lts
  have key : ∀ k, k < W.heap.size → k ≠ T → W'.heap[k]? = W.heap[k]? := fun k hk hx => hg.block k hk (by intro e; injection e with e; exact hx e)
  have hx : ∀ t' b', updO o t none t' = some b' → o t' = some b' := fun t' b' e => by
    unfold updO at e; split at e
    · cases e
    · exact e
  exact { h with
    c0 := (World.cell?_of_block (a := ⟨S, 0, none⟩) (key S l1 h.st)).trans h.c0
    c1 := (World.cell?_of_block (a := ⟨S, 1, none⟩) (key S l1 h.st)).trans h.c1
    ot := ht
    al := h.al.of_block (key A l3 (fun e => h.ta e.symm))
    inn := fun t' b' e => (h.inn t' b' (hx t' b' e)).of_block (key b' (l4 t' b' (hx t' b' e)) (h.tb t' b' (hx t' b' e)).2.1)
    non := fun t' e q => by
      by_cases e1 : t' = t
      · rw [e1]; exact hz q
      · unfold updO at e; rw [if_neg e1] at e; exact h.non t' e q
    tb := fun t' b' e => h.tb t' b' (hx t' b' e)
    inj := fun t1 t2 b' e1 e2 => h.inj t1 t2 b' (hx t1 b' e1) (hx t2 b' e2) }
end
/-- A book somewhere, and what was left alone. -/
def SpTo (W W' : World) (S T A n : Nat) (o : Int → Option Nat) (g : Int → Int → Int) (a : Int → Int) : Prop := ∃ o', SpIn W' S T A n o' g a ∧ SpFr W W' T A o o'
end Go.Proofs.Ytjjbdkgnkieliaa
