/-
  A DEVICE IN MEMORY: its power, its sectors as they last, those that are loose.
-/
import Derived.Test.YtobgopiadfinbaaDvMap
import Derived.Carry
namespace Go.Proofs.Ytobgopiadfinbaa
open Go.RowKit Go.Maps

def lasC (l : List (List UInt8)) : List Value := l.flatMap secC
theorem lasC_len : ∀ {l : List (List UInt8)}, (∀ x ∈ l, x.length = 64) → (lasC l).length = 64 * l.length
  | [], _ => rfl
  | x :: l, h => by
    have h1 := h x List.mem_cons_self
    have h2 := lasC_len (fun y hy => h y (List.mem_cons_of_mem _ hy))
    unfold lasC at h2 ⊢
    rw [List.flatMap_cons, List.length_append, h2, secC_len, h1, List.length_cons]; omega
/-- A device in memory. -/
structure DevAt (W : World) (D P L M n k : Nat) (off : Bool) (uses : Int) (armed : Bool) (left : Int) (las : List (List UInt8)) (f : Int → Option (List UInt8)) : Prop where
  d0 : W.cell? ⟨D, 0, none⟩ = some (.pointer (some ⟨P, 0, none⟩))
  d1 : W.cell? ⟨D, 1, none⟩ = some (.slice (some ⟨L, 0, none⟩) n n)
  d2 : W.cell? ⟨D, 2, none⟩ = some (.map (some M))
  p0 : W.cell? ⟨P, 0, none⟩ = some (.bool off)
  p1 : W.cell? ⟨P, 1, none⟩ = some (.int .i64 uses)
  p2 : W.cell? ⟨P, 2, none⟩ = some (.bool armed)
  p3 : W.cell? ⟨P, 3, none⟩ = some (.int .i64 left)
  pf : ∀ i, W.frozen? ⟨P, i, none⟩ = false
  lb : W.heap[L]? = some (.cells (lasC las).toArray 66 (0, 0))
  ll : las.length = n
  l64 : ∀ l ∈ las, l.length = 64
  mp : LooseAt W M k f
  dp : D ≠ P
  dl : D ≠ L
  dm : D ≠ M
  pl : P ≠ L
  pm : P ≠ M
  lm : L ≠ M
theorem keep_cell {w w' : World} {p : Addr} {v : Value} (h : Below w.heap.size w w') (hc : w.cell? p = some v) : w'.cell? p = some v :=
  (h.cell (block_lt hc)).trans hc
theorem blk_lt {W : World} {b : Nat} {o : Obj} (h : W.heap[b]? = some o) : b < W.heap.size := by
  rcases Nat.lt_or_ge b W.heap.size with h1 | h1
  · exact h1
  · rw [Array.getElem?_eq_none h1] at h; cases h
/-- What writes block R alone, or makes blocks. -/
theorem cell_apart {W W' : World} {p : Addr} {v : Value} {R : Nat} (hg : W.grownBy W' (some R)) (hR : p.block ≠ R) (hc : W.cell? p = some v) : W'.cell? p = some v :=
  (World.cell?_of_block (hg.block p.block (block_lt hc) (by simpa using hR))).trans hc
theorem DevAt.below {W W' : World} {D P L M n k : Nat} {off : Bool} {uses : Int} {armed : Bool} {left : Int} {las : List (List UInt8)} {f : Int → Option (List UInt8)}
    (h : DevAt W D P L M n k off uses armed left las f) (hb : Below W.heap.size W W') : DevAt W' D P L M n k off uses armed left las f where
  d0 := keep_cell hb h.d0
  d1 := keep_cell hb h.d1
  d2 := keep_cell hb h.d2
  p0 := keep_cell hb h.p0
  p1 := keep_cell hb h.p1
  p2 := keep_cell hb h.p2
  p3 := keep_cell hb h.p3
  pf := fun i => (hb.frozen (p := ⟨P, i, none⟩) (block_lt (p := ⟨P, 0, none⟩) h.p0)).trans (h.pf i)
  lb := (hb.block L (blk_lt h.lb)).trans h.lb
  ll := h.ll
  l64 := h.l64
  mp := h.mp.below hb
  dp := h.dp
  dl := h.dl
  dm := h.dm
  pl := h.pl
  pm := h.pm
  lm := h.lm
/-- The map was written. -/
theorem DevAt.map {W W' : World} {D P L M n k k' : Nat} {off : Bool} {uses : Int} {armed : Bool} {left : Int} {las : List (List UInt8)} {f f' : Int → Option (List UInt8)}
    (h : DevAt W D P L M n k off uses armed left las f) (hg : W.grownBy W' (some M)) (hm : LooseAt W' M k' f') : DevAt W' D P L M n k' off uses armed left las f' where
  d0 := cell_apart hg h.dm h.d0
  d1 := cell_apart hg h.dm h.d1
  d2 := cell_apart hg h.dm h.d2
  p0 := cell_apart hg h.pm h.p0
  p1 := cell_apart hg h.pm h.p1
  p2 := cell_apart hg h.pm h.p2
  p3 := cell_apart hg h.pm h.p3
  pf := fun i => (World.frozen?_of_block (hg.block P (block_lt (p := ⟨P, 0, none⟩) h.p0) (by simpa using h.pm))).trans (h.pf i)
  lb := (hg.block L (blk_lt h.lb) (by simpa using h.lm)).trans h.lb
  ll := h.ll
  l64 := h.l64
  mp := hm
  dp := h.dp
  dl := h.dl
  dm := h.dm
  pl := h.pl
  pm := h.pm
  lm := h.lm
theorem setCell_grown (W : World) (b i : Nat) (v : Value) : W.grownBy (W.setCell ⟨b, i, none⟩ v) (some b) := Lib.grownBy_setCell W b i v
/-- A cell of the power was written. -/
theorem DevAt.pow {W : World} {D P L M n k : Nat} {off : Bool} {uses : Int} {armed : Bool} {left : Int} {las : List (List UInt8)} {f : Int → Option (List UInt8)}
    (h : DevAt W D P L M n k off uses armed left las f) :
    (∀ x, DevAt (W.setCell ⟨P, 0, none⟩ (.bool x)) D P L M n k x uses armed left las f) ∧ (∀ x, DevAt (W.setCell ⟨P, 1, none⟩ (.int .i64 x)) D P L M n k off x armed left las f) ∧
    (∀ x, DevAt (W.setCell ⟨P, 2, none⟩ (.bool x)) D P L M n k off uses x left las f) ∧ (∀ x, DevAt (W.setCell ⟨P, 3, none⟩ (.int .i64 x)) D P L M n k off uses armed x las f) := by
  have hne : ∀ i j : Nat, i ≠ j → (⟨P, i, none⟩ : Addr) ≠ ⟨P, j, none⟩ := fun i j hij e => by injection e with _ e2; exact hij e2
  have core : ∀ (i : Nat) (v : Value), ∀ a b c d, (W.setCell ⟨P, i, none⟩ v).cell? ⟨P, 0, none⟩ = some (.bool a) → (W.setCell ⟨P, i, none⟩ v).cell? ⟨P, 1, none⟩ = some (.int .i64 b) → (W.setCell ⟨P, i, none⟩ v).cell? ⟨P, 2, none⟩ = some (.bool c) → (W.setCell ⟨P, i, none⟩ v).cell? ⟨P, 3, none⟩ = some (.int .i64 d) →
      DevAt (W.setCell ⟨P, i, none⟩ v) D P L M n k a b c d las f := fun i v a b c d ha hb hc hd =>
    have hg := setCell_grown W P i v
    { d0 := cell_apart hg h.dp h.d0, d1 := cell_apart hg h.dp h.d1, d2 := cell_apart hg h.dp h.d2, p0 := ha, p1 := hb, p2 := hc, p3 := hd,
      pf := fun j => by rw [World.frozen?_setCell]; exact h.pf j,
      lb := (hg.block L (blk_lt h.lb) (by simpa using h.pl.symm)).trans h.lb, ll := h.ll, l64 := h.l64, mp := h.mp.kept hg (by simpa using h.pm.symm), dp := h.dp, dl := h.dl, dm := h.dm, pl := h.pl, pm := h.pm, lm := h.lm }
  have oth : ∀ (i j : Nat) (v u : Value), i ≠ j → W.cell? ⟨P, j, none⟩ = some u → (W.setCell ⟨P, i, none⟩ v).cell? ⟨P, j, none⟩ = some u := fun i j v u hij hu => by
    rw [World.cell?_setCell_other _ _ _ _ (hne i j hij)]; exact hu
  have same : ∀ (i : Nat) (v u : Value), W.cell? ⟨P, i, none⟩ = some u → (W.setCell ⟨P, i, none⟩ v).cell? ⟨P, i, none⟩ = some v := fun i v u hu => World.cell?_setCell_same _ _ _ hu
  exact ⟨fun x => core 0 _ _ _ _ _ (same 0 _ _ h.p0) (oth 0 1 _ _ (by decide) h.p1) (oth 0 2 _ _ (by decide) h.p2) (oth 0 3 _ _ (by decide) h.p3),
    fun x => core 1 _ _ _ _ _ (oth 1 0 _ _ (by decide) h.p0) (same 1 _ _ h.p1) (oth 1 2 _ _ (by decide) h.p2) (oth 1 3 _ _ (by decide) h.p3),
    fun x => core 2 _ _ _ _ _ (oth 2 0 _ _ (by decide) h.p0) (oth 2 1 _ _ (by decide) h.p1) (same 2 _ _ h.p2) (oth 2 3 _ _ (by decide) h.p3),
    fun x => core 3 _ _ _ _ _ (oth 3 0 _ _ (by decide) h.p0) (oth 3 1 _ _ (by decide) h.p1) (oth 3 2 _ _ (by decide) h.p2) (same 3 _ _ h.p3)⟩
end Go.Proofs.Ytobgopiadfinbaa
