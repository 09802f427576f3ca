/-
  law 14: does: what it works on.
-/
import Derived.Test.YtjojempjmpaaaaaLkFrame
import Derived.Test.YtjojempjmpaaaaaLkRef17
import Derived.Test.YtjojempjmpaaaaaLkSame
namespace Go.Proofs.Ytjojempjmpaaaaa
open Go.RowKit
/-- The two lists' table beside the program's. -/
structure MdN (W : World) (T : Nat) (s : Lk) (vh vl : Value) (H L : List Wc) (j : Nat) : Prop where
  q1 : RowQ W vh H
  q2 : RowQ W vl L
  b1 : 0 < H.length → ∀ g, vh.ownBlock = some g → Nb s T g
  b2 : 0 < L.length → ∀ g, vl.ownBlock = some g → Nb s T g
  two : Two s H L
  ln : H.length + L.length ≤ j
theorem ask2_len {o : Int} {k : ByteArray} {b : Bool} (H L : List Wc) : (ask2 H L o k b).1.length + (ask2 H L o k b).2.1.length ≤ H.length + L.length + 1 := by
  unfold ask2
  split
  · exact Nat.le_succ _
  · split
    · exact Nat.le_succ _
    · split
      · exact Nat.le_succ _
      · split
        · have := holdR_len (c := ⟨k, b, o⟩) H
          simp only; omega
        · simp only [List.length_append, List.length_take, List.length_cons, List.length_drop]
          omega
section
variable {w0 W X : World} {T ml mh mw n j : Nat} {s s' : Lk} {vh vl : Value} {H L : List Wc} {g : Nat}
theorem MdN.below (h : MdN W T s vh vl H L j) (hb : Below W.heap.size W X) : MdN X T s vh vl H L j := ⟨h.q1.below hb, h.q2.below hb, h.b1, h.b2, h.two, h.ln⟩
/-- A cell of a block beside the table is written. -/
theorem AcN.setC (h : AcN w0 W T ml mh mw n s j) (hg : Nb s T g) (hc : ∃ u, W.cell? ⟨g, 0, none⟩ = some u) (hB : w0.heap.size ≤ g) (i : Nat) (u : Value) : AcN w0 (W.setCell ⟨g, i, none⟩ u) T ml mh mw n s j := by
  have hgr : W.grownBy (W.setCell ⟨g, i, none⟩ u) (Value.slice (some ⟨g, 0, none⟩) 0 0).ownBlock := by
    have hb := (Below.refl g W).setCell (p := ⟨g, i, none⟩) (Nat.le_refl _) u
    exact ⟨hb.os, hb.tape, hb.output, hb.size, fun k _ hne => Below.heap_setCell _ _ _ _ (fun e => hne (by rw [e]; rfl))⟩
  obtain ⟨h1, h2, _⟩ := h.t.appended (v := .slice (some ⟨g, 0, none⟩) 0 0) (v' := .slice (some ⟨g, 0, none⟩) 0 0) (fun g' e => by
    injection e with e
    subst e
    exact ⟨⟨hg.t, hg.k, hg.x, by rw [h.np]⟩, hc, hB⟩) hgr (.inl rfl)
  exact ⟨h1, h.a, h.bw.trans h2, h.np⟩
theorem MdN.setC (h : MdN W T s vh vl H L j) (i : Nat) (u : Value) (h1 : 0 < H.length → ∀ g', vh.ownBlock = some g' → g' ≠ g) (h2 : 0 < L.length → ∀ g', vl.ownBlock = some g' → g' ≠ g) : MdN (W.setCell ⟨g, i, none⟩ u) T s vh vl H L j :=
  ⟨h.q1.of (fun g' e hl => Below.heap_setCell _ _ _ _ (h1 hl g' e)), h.q2.of (fun g' e hl => Below.heap_setCell _ _ _ _ (h2 hl g' e)), h.b1, h.b2, h.two, h.ln⟩
/-- A row of numbers, read behind an act. -/
theorem FrN.ints {ex : Option Nat} (h : FrN s s' T ex W X) {B : Nat} {v : Value} {l : List Int} (hr : RowI W B v l) (hg : ∀ g, v.ownBlock = some g → Nb s T g ∧ ex ≠ some g) : ∃ a c, v = .slice a l.length c ∧ IntsAt X a l := by
  obtain ⟨a, c, e, hx⟩ := hr.form
  refine ⟨a, c, e, ?_⟩
  by_cases hl : l = []
  · exact .inl hl
  · refine hx X (fun g e2 => ?_)
    obtain ⟨n1, n2⟩ := hg g e2
    refine (h g n1 ?_ n2).1
    obtain ⟨g2, cap, e3, _, hc⟩ := RowI.cells hr (List.length_pos_iff.2 hl)
    rw [e3] at e2
    injection e2 with e2
    subst e2
    exact ⟨0, _, hc 0 (List.length_pos_iff.2 hl)⟩
theorem FrN.frozen {ex : Option Nat} (h : FrN s s' T ex W X) (hg : Nb s T g) (hc : HasC W g) (hx : ex ≠ some g) (i : Nat) : X.frozen? ⟨g, i, none⟩ = W.frozen? ⟨g, i, none⟩ := World.frozen?_of_block (h g hg hc hx).1
theorem FrN.comp {s1 s2 : Lk} {W1 W2 : World} {ex : Option Nat} (h : FrN s s1 T none W W1) (h2 : FrN s1 s2 T ex W1 W2) (hx : ∀ b, HasC W b → ex ≠ some b) : FrN s s2 T none W W2 := fun b hb hc _ => by
  obtain ⟨q1, q2⟩ := h b hb hc (by simp)
  have hc1 : HasC W1 b := by
    obtain ⟨i, v, hv⟩ := hc
    exact ⟨i, v, (World.cell?_of_block (a := ⟨b, i, none⟩) q1).trans hv⟩
  obtain ⟨r1, r2⟩ := h2 b q2 hc1 (hx b hc)
  exact ⟨r1.trans q1, r2⟩
theorem qwc {a : Option Addr} {c : Nat} {l : List Wc} (h : RowQ W (.slice a l.length c) l) : WcsAt W a l := by
  obtain ⟨a2, c2, e, hw⟩ := h.form
  cases e
  exact hw
/-- append of numbers to numbers, in a plain region. -/
theorem append_il {w : World} {ops : Array Oper} {rest : List Oper} {o : Oper} {a : Act} {Q : Exit → Act → World → Prop} (hgd : o.guard = none) (s x : Operand)
    (ho : o.op = .call { callee := .builtin .append, args := #[s, x], argTypes := #[32, 32] })
    (B : Nat) (v : Value) (l : List Int) (ma : Option Addr) (m : List Int) (c : Nat) (hs : a.eval s = v) (hown : RowI w B v l) (hx : a.eval x = .slice ma m.length c) (hm : IntsAt w ma m) (h10 : l.length + m.length ≤ 1000000) (hB : B ≤ w.heap.size)
    (h : ∀ v' w', RowI w' B v' (l ++ m) → w.grownBy w' v.ownBlock → (v'.ownBlock = v.ownBlock ∨ v'.ownBlock = some w.heap.size) → wpList Try.prog ops Q rest (a.put o.dst v') w') :
    wpList Try.prog ops Q (o :: rest) a w := by
  refine wpList_plain hgd fun K hK => ?_
  have hs2 := step_append_ii (ops := ops) (o := o) (a := a) (w := w) (K := K) (Q := Q) (E := True) hgd s x ho B v l ma m c hs hown hx hm h10 hB (fun v' w' r1 r2 r3 => hK _ _ (h v' w' r1 r2 r3))
  have hw : Region.wanted o (yielded ops a.tmps) = true := by simp [Region.wanted, hgd]
  rw [if_pos hw] at hs2
  exact hs2
end
end Go.Proofs.Ytjojempjmpaaaaa
