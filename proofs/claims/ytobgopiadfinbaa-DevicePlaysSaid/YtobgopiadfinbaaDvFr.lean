/-
  WHAT A CALL ON A DEVICE LEAVES AS IT WAS: all blocks but those of its power, its sectors, its map.
-/
import Derived.Test.YtobgopiadfinbaaDvLas
namespace Go.Proofs.Ytobgopiadfinbaa
open Go.RowKit
structure Fr3 (P L M : Nat) (W W' : World) : Prop where
  os : W'.os = W.os
  tape : W'.tape = W.tape
  output : W'.output = W.output
  size : W.heap.size ≤ W'.heap.size
  block : ∀ k, k < W.heap.size → k ≠ P → k ≠ L → k ≠ M → W'.heap[k]? = W.heap[k]?
theorem Fr3.refl (P L M : Nat) (W : World) : Fr3 P L M W W := ⟨rfl, rfl, rfl, Nat.le_refl _, fun _ _ _ _ _ => rfl⟩
theorem Fr3.trans {P L M : Nat} {a b c : World} (h : Fr3 P L M a b) (g : Fr3 P L M b c) : Fr3 P L M a c :=
  ⟨g.os.trans h.os, g.tape.trans h.tape, g.output.trans h.output, Nat.le_trans h.size g.size, fun k hk h1 h2 h3 => (g.block k (Nat.lt_of_lt_of_le hk h.size) h1 h2 h3).trans (h.block k hk h1 h2 h3)⟩
theorem Fr3.of_below {P L M : Nat} {W W' : World} (h : Below W.heap.size W W') : Fr3 P L M W W' := ⟨h.os, h.tape, h.output, h.size, fun k hk _ _ _ => h.block k hk⟩
theorem Fr3.of_grown {P L M : Nat} {W W' : World} {row : Option Nat} (h : W.grownBy W' row) (hr : ∀ k, row = some k → k = P ∨ k = L ∨ k = M) : Fr3 P L M W W' :=
  ⟨h.os, h.tape, h.output, h.size, fun k hk h1 h2 h3 => h.block k hk (fun e => by
    rcases hr k e.symm with e | e | e
    · exact h1 e
    · exact h2 e
    · exact h3 e)⟩
/-- A block that is new was written. -/
theorem Fr3.new {P L M R : Nat} {W wr w' : World} (h : Fr3 P L M W wr) (hg : wr.grownBy w' (some R)) (hR : W.heap.size ≤ R) : Fr3 P L M W w' :=
  ⟨hg.os.trans h.os, hg.tape.trans h.tape, hg.output.trans h.output, Nat.le_trans h.size hg.size, fun k hk h1 h2 h3 => (hg.block k (Nat.lt_of_lt_of_le hk h.size) (fun e => by injection e with e; omega)).trans (h.block k hk h1 h2 h3)⟩
theorem Fr3.setP {P L M : Nat} (W : World) (i : Nat) (v : Value) : Fr3 P L M W (W.setCell ⟨P, i, none⟩ v) := Fr3.of_grown (setCell_grown W P i v) (fun k e => by injection e with e; exact .inl e.symm)
theorem Fr3.below {P L M B : Nat} {W W' : World} (h : Fr3 P L M W W') (hB : B ≤ W.heap.size) (h1 : B ≤ P) (h2 : B ≤ L) (h3 : B ≤ M) : Below B W W' :=
  ⟨h.os, h.tape, h.output, h.size, fun k hk => h.block k (by omega) (by omega) (by omega) (by omega)⟩
theorem Fr3.cell {P L M : Nat} {W W' : World} (h : Fr3 P L M W W') {p : Addr} {v : Value} (hc : W.cell? p = some v) (h1 : p.block ≠ P) (h2 : p.block ≠ L) (h3 : p.block ≠ M) : W'.cell? p = some v :=
  (World.cell?_of_block (h.block p.block (block_lt hc) h1 h2 h3)).trans hc
/-- Another device of the same power. -/
theorem DevAt.other {W W' : World} {D P L M n k E L' M' n' k' : Nat} {off off' : Bool} {uses uses' : Int} {armed armed' : Bool} {left left' : Int} {las las' : List (List UInt8)} {f f' : Int → Option (List UInt8)}
    (h : DevAt W D P L M n k off uses armed left las f) (g : DevAt W' E P L' M' n' k' off' uses' armed' left' las' f') (hf : Fr3 P L' M' W W') (h1 : D ≠ L' ∧ D ≠ M') (h2 : L ≠ L' ∧ L ≠ M') (h3 : M ≠ L' ∧ M ≠ M') :
    DevAt W' D P L M n k off' uses' armed' left' las f where
  d0 := hf.cell h.d0 h.dp h1.1 h1.2
  d1 := hf.cell h.d1 h.dp h1.1 h1.2
  d2 := hf.cell h.d2 h.dp h1.1 h1.2
  p0 := g.p0
  p1 := g.p1
  p2 := g.p2
  p3 := g.p3
  pf := g.pf
  lb := (hf.block L (blk_lt h.lb) h.pl.symm h2.1 h2.2).trans h.lb
  ll := h.ll
  l64 := h.l64
  mp := by
    obtain ⟨D0, ⟨es, clock, hb, F, hs, hD⟩, h5⟩ := h.mp
    exact ⟨D0, ⟨es, clock, (hf.block M (blk_lt hb) h.pm.symm h3.1 h3.2).trans hb, F, hs, hD⟩, h5⟩
  dp := h.dp
  dl := h.dl
  dm := h.dm
  pl := h.pl
  pm := h.pm
  lm := h.lm
end Go.Proofs.Ytobgopiadfinbaa
