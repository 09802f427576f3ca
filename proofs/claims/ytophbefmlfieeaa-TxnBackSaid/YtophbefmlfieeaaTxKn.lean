/-
  A TRANSACTION THAT IS KNOWN, in memory; what noting a record leaves.
-/
import Derived.Test.YtophbefmlfieeaaTxKept
namespace Go.Proofs.Ytophbefmlfieeaa
open Go.RowKit
structure KnD where
  id : Int
  home : Int
  first : Int
  last : Int
  st : Int
  cv : Value
  cl : List Rc
  pv : Value
  pl : List Plc
/-- Block K holds it; its rows are the call's own. -/
structure KnIs (W : World) (B K : Nat) (d : KnD) : Prop where
  c0 : W.cell? ⟨K, 0, none⟩ = some (.int .i64 d.id)
  c1 : W.cell? ⟨K, 1, none⟩ = some (.int .i64 d.home)
  c2 : W.cell? ⟨K, 2, none⟩ = some (.int .i64 d.first)
  c3 : W.cell? ⟨K, 3, none⟩ = some (.int .i64 d.last)
  c4 : W.cell? ⟨K, 4, none⟩ = some (.int .i64 d.st)
  c5 : W.cell? ⟨K, 5, none⟩ = some d.cv
  c6 : W.cell? ⟨K, 6, none⟩ = some d.pv
  fz : ∀ i, W.frozen? ⟨K, i, none⟩ = false
  cr : RecR W B d.cv d.cl
  pr : PlcR W B d.pv d.pl
  nc : d.cv.ownBlock ≠ some K
  np : d.pv.ownBlock ≠ some K
  ncp : ∀ k, d.cv.ownBlock = some k → d.pv.ownBlock ≠ some k
  lo : B ≤ K
/-- A frame: all blocks but K and two rows'. -/
structure FrKn (W W' : World) (K : Nat) (v p : Value) : Prop where
  os : W'.os = W.os
  tape : W'.tape = W.tape
  output : W'.output = W.output
  size : W.heap.size ≤ W'.heap.size
  block : ∀ k, k < W.heap.size → k ≠ K → v.ownBlock ≠ some k → p.ownBlock ≠ some k → W'.heap[k]? = W.heap[k]?
section
variable {W X Y : World} {B K : Nat} {d : KnD} {v p : Value}
theorem FrKn.refl (W : World) (K : Nat) (v p : Value) : FrKn W W K v p := ⟨rfl, rfl, rfl, Nat.le_refl _, fun _ _ _ _ _ => rfl⟩
theorem FrKn.trans (h : FrKn W X K v p) (g : FrKn X Y K v p) : FrKn W Y K v p :=
  ⟨g.os.trans h.os, g.tape.trans h.tape, g.output.trans h.output, Nat.le_trans h.size g.size, fun k hk a b c => (g.block k (Nat.lt_of_lt_of_le hk h.size) a b c).trans (h.block k hk a b c)⟩
theorem FrKn.of_below (h : Below W.heap.size W X) : FrKn W X K v p := ⟨h.os, h.tape, h.output, h.size, fun k hk _ _ _ => h.block k hk⟩
theorem FrKn.set {i : Nat} {u : Value} (h : FrKn W X K v p) : FrKn W (X.setCell ⟨K, i, none⟩ u) K v p := by
  have hg := Lib.grownBy_setCell X K i u
  exact ⟨hg.os.trans h.os, hg.tape.trans h.tape, hg.output.trans h.output, Nat.le_trans h.size hg.size, fun k hk a b c => (hg.block k (Nat.lt_of_lt_of_le hk h.size) (fun e => by injection e with e; exact a e)).trans (h.block k hk a b c)⟩
theorem FrKn.grow {r : Option Nat} (h : FrKn W X K v p) (hg : X.grownBy Y r) (hr : ∀ k, r = some k → v.ownBlock = some k ∨ p.ownBlock = some k ∨ W.heap.size ≤ k) : FrKn W Y K v p :=
  ⟨hg.os.trans h.os, hg.tape.trans h.tape, hg.output.trans h.output, Nat.le_trans h.size hg.size, fun k hk a b c => (hg.block k (Nat.lt_of_lt_of_le hk h.size) (fun e => by
    rcases hr k e.symm with q | q | q
    · exact b q
    · exact c q
    · omega)).trans (h.block k hk a b c)⟩
theorem KnIs.lt (h : KnIs W B K d) : K < W.heap.size := block_lt (p := ⟨K, 0, none⟩) h.c0
theorem KnIs.below (h : KnIs W B K d) (hb : Below W.heap.size W X) : KnIs X B K d :=
  ⟨keep_cell hb h.c0, keep_cell hb h.c1, keep_cell hb h.c2, keep_cell hb h.c3, keep_cell hb h.c4, keep_cell hb h.c5, keep_cell hb h.c6, fun i => (hb.frozen (p := ⟨K, i, none⟩) h.lt).trans (h.fz i), h.cr.below hb, h.pr.below hb, h.nc, h.np, h.ncp, h.lo⟩
/-- A row's block, and the row, where other blocks grew. -/
theorem row_grown {size n : Nat} {e : TypeId} {v : Value} {xs : List Value} {r : Option Nat} (h : W.ownsRow B e size v n xs) (hg : W.grownBy X r) (hr : ∀ k, v.ownBlock = some k → r ≠ some k) : X.ownsRow B e size v n xs :=
  World.ownsRow.kept h hg (by
    cases hv : v.ownBlock with
    | none => exact .inl rfl
    | some k => exact .inr (fun e => hr k hv e.symm))
/-- One of a known transaction's first five cells is another number. -/
theorem KnIs.set5 (h : KnIs W B K d) (i : Nat) (z : Int) (hi : i < 5) : KnIs (W.setCell ⟨K, i, none⟩ (.int .i64 z)) B K (match i with | 0 => { d with id := z } | 1 => { d with home := z } | 2 => { d with first := z } | 3 => { d with last := z } | _ => { d with st := z }) := by
  have o : ∀ {j : Nat} {u : Value}, i ≠ j → W.cell? ⟨K, j, none⟩ = some u → (W.setCell ⟨K, i, none⟩ (.int .i64 z)).cell? ⟨K, j, none⟩ = some u := fun hne hc => by
    rw [World.cell?_setCell_other _ _ _ _ (fun e => by injection e with _ e; exact hne e)]; exact hc
  have s : ∀ {u : Value}, W.cell? ⟨K, i, none⟩ = some u → (W.setCell ⟨K, i, none⟩ (.int .i64 z)).cell? ⟨K, i, none⟩ = some (.int .i64 z) := fun hc => World.cell?_setCell_same _ _ _ hc
  have hg := Lib.grownBy_setCell W K i (.int .i64 z)
  have cr : RecR (W.setCell ⟨K, i, none⟩ (.int .i64 z)) B d.cv d.cl := row_grown h.cr hg (fun k hk e => by injection e with e; exact h.nc (by rw [hk, e]))
  have pr : PlcR (W.setCell ⟨K, i, none⟩ (.int .i64 z)) B d.pv d.pl := row_grown h.pr hg (fun k hk e => by injection e with e; exact h.np (by rw [hk, e]))
  have fz : ∀ j, (W.setCell ⟨K, i, none⟩ (.int .i64 z)).frozen? ⟨K, j, none⟩ = false := fun j => by rw [World.frozen?_setCell]; exact h.fz j
  match i, hi with
  | 0, _ => exact ⟨s h.c0, o (by decide) h.c1, o (by decide) h.c2, o (by decide) h.c3, o (by decide) h.c4, o (by decide) h.c5, o (by decide) h.c6, fz, cr, pr, h.nc, h.np, h.ncp, h.lo⟩
  | 1, _ => exact ⟨o (by decide) h.c0, s h.c1, o (by decide) h.c2, o (by decide) h.c3, o (by decide) h.c4, o (by decide) h.c5, o (by decide) h.c6, fz, cr, pr, h.nc, h.np, h.ncp, h.lo⟩
  | 2, _ => exact ⟨o (by decide) h.c0, o (by decide) h.c1, s h.c2, o (by decide) h.c3, o (by decide) h.c4, o (by decide) h.c5, o (by decide) h.c6, fz, cr, pr, h.nc, h.np, h.ncp, h.lo⟩
  | 3, _ => exact ⟨o (by decide) h.c0, o (by decide) h.c1, o (by decide) h.c2, s h.c3, o (by decide) h.c4, o (by decide) h.c5, o (by decide) h.c6, fz, cr, pr, h.nc, h.np, h.ncp, h.lo⟩
  | 4, _ => exact ⟨o (by decide) h.c0, o (by decide) h.c1, o (by decide) h.c2, o (by decide) h.c3, s h.c4, o (by decide) h.c5, o (by decide) h.c6, fz, cr, pr, h.nc, h.np, h.ncp, h.lo⟩
/-- Another row of changes: the row grew, the cell holds it. -/
theorem KnIs.putC (h : KnIs W B K d) {v' : Value} {l' : List Rc} (hr : RecR X B v' l') (hg : W.grownBy X d.cv.ownBlock) (hv : v'.ownBlock = d.cv.ownBlock ∨ v'.ownBlock = some W.heap.size ∨ v'.ownBlock = none) : KnIs (X.setCell ⟨K, 5, none⟩ v') B K { d with cv := v', cl := l' } := by
  have hK := h.lt
  have hc : ∀ {j : Nat} {u : Value}, W.cell? ⟨K, j, none⟩ = some u → X.cell? ⟨K, j, none⟩ = some u := fun hx => (World.cell?_of_block (hg.block K hK (fun e => h.nc e.symm))).trans hx
  have o : ∀ {j : Nat} {u : Value}, 5 ≠ j → X.cell? ⟨K, j, none⟩ = some u → (X.setCell ⟨K, 5, none⟩ v').cell? ⟨K, j, none⟩ = some u := fun hne hx => by
    rw [World.cell?_setCell_other _ _ _ _ (fun e => by injection e with _ e; exact hne e)]; exact hx
  have hg2 := Lib.grownBy_setCell X K 5 v'
  have hpl := h.pr.form
  have hvK : v'.ownBlock ≠ some K := by
    rcases hv with e | e | e
    · rw [e]; exact h.nc
    · rw [e]; intro x; injection x with x; omega
    · rw [e]; intro x; cases x
  have hpX : PlcR X B d.pv d.pl := row_grown h.pr hg (fun k hk e => h.ncp k e hk)
  have hpv : ∀ k, v'.ownBlock = some k → d.pv.ownBlock ≠ some k := fun k hk hp => by
    rcases hv with e | e | e
    · rw [e] at hk; exact h.ncp k hk hp
    · rw [e] at hk; injection hk with hk
      rcases hpl with ⟨q, _⟩ | ⟨g, c, q, _, _, hlt⟩
      · rw [q] at hp; cases hp
      · rw [q] at hp
        have : g = k := by simpa [Value.ownBlock] using hp
        omega
    · rw [e] at hk; cases hk
  exact ⟨o (by decide) (hc h.c0), o (by decide) (hc h.c1), o (by decide) (hc h.c2), o (by decide) (hc h.c3), o (by decide) (hc h.c4), World.cell?_setCell_same _ _ _ (hc h.c5), o (by decide) (hc h.c6), fun i => by
    rw [World.frozen?_setCell]; exact (World.frozen?_of_block (a := ⟨K, i, none⟩) (hg.block K hK (fun e => h.nc e.symm))).trans (h.fz i),
    row_grown hr hg2 (fun k hk e => by injection e with e; exact hvK (by rw [hk, e])), row_grown hpX hg2 (fun k hk e => by injection e with e; exact h.np (by rw [hk, e])), hvK, h.np, hpv, h.lo⟩
/-- Another row of places. -/
theorem KnIs.putP (h : KnIs W B K d) {v' : Value} {l' : List Plc} (hr : PlcR X B v' l') (hg : W.grownBy X d.pv.ownBlock) (hv : v'.ownBlock = d.pv.ownBlock ∨ v'.ownBlock = some W.heap.size ∨ v'.ownBlock = none) : KnIs (X.setCell ⟨K, 6, none⟩ v') B K { d with pv := v', pl := l' } := by
  have hK := h.lt
  have hc : ∀ {j : Nat} {u : Value}, W.cell? ⟨K, j, none⟩ = some u → X.cell? ⟨K, j, none⟩ = some u := fun hx => (World.cell?_of_block (hg.block K hK (fun e => h.np e.symm))).trans hx
  have o : ∀ {j : Nat} {u : Value}, 6 ≠ j → X.cell? ⟨K, j, none⟩ = some u → (X.setCell ⟨K, 6, none⟩ v').cell? ⟨K, j, none⟩ = some u := fun hne hx => by
    rw [World.cell?_setCell_other _ _ _ _ (fun e => by injection e with _ e; exact hne e)]; exact hx
  have hg2 := Lib.grownBy_setCell X K 6 v'
  have hcl := h.cr.form
  have hvK : v'.ownBlock ≠ some K := by
    rcases hv with e | e | e
    · rw [e]; exact h.np
    · rw [e]; intro x; injection x with x; omega
    · rw [e]; intro x; cases x
  have hcX : RecR X B d.cv d.cl := row_grown h.cr hg (fun k hk e => h.ncp k hk e)
  have hpv : ∀ k, d.cv.ownBlock = some k → v'.ownBlock ≠ some k := fun k hk hp => by
    rcases hv with e | e | e
    · rw [e] at hp; exact h.ncp k hk hp
    · rw [e] at hp; injection hp with hp
      rcases hcl with ⟨q, _⟩ | ⟨g, c, q, _, _, hlt⟩
      · rw [q] at hk; cases hk
      · rw [q] at hk
        have : g = k := by simpa [Value.ownBlock] using hk
        omega
    · rw [e] at hp; cases hp
  exact ⟨o (by decide) (hc h.c0), o (by decide) (hc h.c1), o (by decide) (hc h.c2), o (by decide) (hc h.c3), o (by decide) (hc h.c4), o (by decide) (hc h.c5), World.cell?_setCell_same _ _ _ (hc h.c6), fun i => by
    rw [World.frozen?_setCell]; exact (World.frozen?_of_block (a := ⟨K, i, none⟩) (hg.block K hK (fun e => h.np e.symm))).trans (h.fz i),
    row_grown hcX hg2 (fun k hk e => by injection e with e; exact h.nc (by rw [hk, e])), row_grown hr hg2 (fun k hk e => by injection e with e; exact hvK (by rw [hk, e])), h.nc, hvK, hpv, h.lo⟩
end
end Go.Proofs.Ytophbefmlfieeaa
