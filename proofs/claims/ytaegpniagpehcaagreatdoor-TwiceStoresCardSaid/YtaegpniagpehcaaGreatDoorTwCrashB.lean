/-
  TwiceCrashes: the state of its loop.
-/
import Derived.Test.YtaegpniagpehcaaGreatDoorTwCrash
namespace Go.Proofs.YtaegpniagpehcaaGreatDoor
open Go.RowKit
section
variable {w W : World} {D P L M n B T np R : Nat} {now : Nat → Pg} {pm : Pm} {s : Ds}
theorem dev_apart {W' : World} {k : Nat} {off armed : Bool} {uses left : Int} {las : List (List UInt8)} {f : Int → Option (List UInt8)} (h : Dv.DevAt W D P L M n k off uses armed left las f) (hg : W.grownBy W' (some R)) (h1 : D ≠ R) (h2 : P ≠ R) (h3 : L ≠ R) (h4 : M ≠ R) : Dv.DevAt W' D P L M n k off uses armed left las f where
  d0 := Dv.cell_apart hg h1 h.d0
  d1 := Dv.cell_apart hg h1 h.d1
  d2 := Dv.cell_apart hg h1 h.d2
  p0 := Dv.cell_apart hg h2 h.p0
  p1 := Dv.cell_apart hg h2 h.p1
  p2 := Dv.cell_apart hg h2 h.p2
  p3 := Dv.cell_apart hg h2 h.p3
  pf := fun i => (World.frozen?_of_block (hg.block P (Dv.block_lt (p := ⟨P, 0, none⟩) h.p0) (by simpa using h2))).trans (h.pf i)
  lb := (hg.block L (Dv.blk_lt h.lb) (by simpa using h3)).trans h.lb
  ll := h.ll
  l64 := h.l64
  mp := h.mp.kept hg (by simpa using h4)
  dp := h.dp
  dl := h.dl
  dm := h.dm
  pl := h.pl
  pm := h.pm
  lm := h.lm
theorem Tk.apart {W' : World} (h : Tk w W D P L M n B T np now pm) (hg : W.grownBy W' (some R)) (hb : w.heap.size ≤ R) (h0 : T ≠ R) (h1 : D ≠ R) (h2 : P ≠ R) (h3 : L ≠ R) (h4 : M ≠ R) : Tk w W' D P L M n B T np now pm := by
  obtain ⟨s, hs, r⟩ := h
  obtain ⟨k, off, uses, armed, left, las, hd, r2⟩ := hs.d
  exact ⟨s, ⟨⟨k, off, uses, armed, left, las, dev_apart hd hg h1 h2 h3 h4, r2⟩, Dv.cell_apart hg h0 hs.t0, Dv.cell_apart hg h0 hs.t1, hs.tne, ⟨hg.os.trans hs.bw.os, hg.tape.trans hs.bw.tape, hg.output.trans hs.bw.output, Nat.le_trans hs.bw.size hg.size, fun k hk => (hg.block k (Nat.lt_of_lt_of_le hk hs.bw.size) (fun e => by injection e with e; omega)).trans (hs.bw.block k hk)⟩, hs.lo, hs.tab⟩, r⟩
theorem Tk.ltT (h : Tk w W D P L M n B T np now pm) : T < W.heap.size ∧ D < W.heap.size := by
  obtain ⟨s, hs, _⟩ := h
  exact ⟨Dv.block_lt (p := ⟨T, 0, none⟩) hs.t0, hs.d.lts.1⟩
theorem Tfell.lo {Q : (Nat → List UInt8) → Prop} (h : Tfell w W D P L M n B Q) : w.heap.size ≤ P ∧ w.heap.size ≤ L ∧ w.heap.size ≤ M := by obtain ⟨s, h1, _⟩ := h; exact h1.lo
theorem set3_grown (W : World) (R i j k : Nat) (u v x : Value) : W.grownBy (((W.setCell ⟨R, i, none⟩ u).setCell ⟨R, j, none⟩ v).setCell ⟨R, k, none⟩ x) (some R) :=
  ((grown_cell W R i u).trans (grown_cell _ R j v)).trans (grown_cell _ R k x)
/-- What the law's row of pages is: as it must be; its cells lie in what came in. -/
structure LpR (w W : World) (R cap : Nat) (ps : List PgV) (now : Nat → Pg) : Prop where
  row : RowP W w.heap.size (.slice (some ⟨R, 0, none⟩) ps.length cap) ps
  is : NowIs 6 ps now
  cl : ∀ i, i < 6 → ClsAt w (ps.getD i noPg).a (ps.getD i noPg).l
  sm : ∀ i, i < 6 → (now i).2.length ≤ 1000
theorem LpR.below {X : World} {cap : Nat} {ps : List PgV} (h : LpR w W R cap ps now) (hb : Below W.heap.size W X) : LpR w X R cap ps now := ⟨h.row.below hb, h.is, h.cl, h.sm⟩
theorem LpR.fr3 {X : World} {cap : Nat} {ps : List PgV} (h : LpR w W R cap ps now) (hf : Dv.Fr3 P L M W X) (h2 : P ≠ R) (h3 : L ≠ R) (h4 : M ≠ R) : LpR w X R cap ps now := ⟨h.row.fr3 hf h2.symm h3.symm h4.symm, h.is, h.cl, h.sm⟩
theorem LpR.len {cap : Nat} {ps : List PgV} (h : LpR w W R cap ps now) : ps.length = 6 := h.is.1
theorem LpR.pgs {cap : Nat} {ps : List PgV} (h : LpR w W R cap ps now) (hb : Below w.heap.size w W) : PgsAt W (some ⟨R, 0, none⟩) ps := h.row.pgs fun i hi => (h.cl i (by have := h.len; omega)).below hb
/-- The cells where a page is to be stored. -/
theorem LpR.spot {cap : Nat} {ps : List PgV} (h : LpR w W R cap ps now) (k : Nat) (hk : k < 6) : (∃ v, W.cell? ⟨R, k * 3, none⟩ = some (.int .i64 v)) ∧ (∃ v, W.cell? ⟨R, k * 3 + 1, none⟩ = some (.int .i64 v)) ∧ (∃ a m c, W.cell? ⟨R, k * 3 + 2, none⟩ = some (.slice a m c)) ∧ ∀ j, W.frozen? ⟨R, j, none⟩ = false := by
  obtain ⟨h1, h2, h3⟩ := h.row.cells k (by have := h.len; omega)
  exact ⟨⟨_, h1⟩, ⟨_, h2⟩, ⟨_, _, _, h3⟩, fun j => World.ownsRow.frozenAt h.row j⟩
theorem LpR.set {cap : Nat} {ps : List PgV} (h : LpR w W R cap ps now) (k : Nat) (hk : k < 6) (q : PgV) (hq : q.no = (k : Int)) (hc : ClsAt w q.a q.l) (hs : q.l.length ≤ 1000) :
    LpR w (((W.setCell ⟨R, k * 3, none⟩ (.int .i64 q.no)).setCell ⟨R, k * 3 + 1, none⟩ (.int .i64 q.g)).setCell ⟨R, k * 3 + 2, none⟩ (.slice q.a q.l.length q.c)) R cap (ps.set k q) (setPg now k (q.g, q.l)) where
  row := by
    have := h.row.set k (by have := h.len; omega) q
    rw [List.length_set]; exact this
  is := h.is.set q hk hq
  cl := fun i hi => by
    rw [List.getD_eq_getElem?_getD, List.getElem?_set]
    by_cases e : k = i
    · rw [if_pos e, if_pos (by have := h.len; omega)]; exact hc
    · rw [if_neg e, ← List.getD_eq_getElem?_getD]; exact h.cl i hi
  sm := fun i hi => by
    unfold setPg
    split
    · exact hs
    · exact h.sm i hi
/-- The loop, nothing having gone wrong. -/
def LpA (w W : World) (D P L M T R cap k : Nat) : Prop := ∃ ps now pm, LpR w W R cap ps now ∧ Tk w W D P L M 29 (30 + 14 * k) T 6 now pm
theorem LpA.below {X : World} {cap k : Nat} (h : LpA w W D P L M T R cap k) (hb : Below W.heap.size W X) : LpA w X D P L M T R cap k := by
  obtain ⟨ps, now, pm, h1, h2⟩ := h
  exact ⟨ps, now, pm, h1.below hb, h2.below hb⟩
/-- The loop, behind the page at which the power went. -/
def LpC (w W : World) (D P L M R cap k : Nat) (q : PgV) : Prop := ∃ ps now, LpR w W R cap ps now ∧ pgOk q.no q.g q.l = true ∧ q.no < 6 ∧ Tfell w W D P L M 29 (30 + 14 * k) (fun g => Inv 6 g now ∨ Inv 6 g (setPg now q.no.toNat (q.g, q.l)))
end
end Go.Proofs.YtaegpniagpehcaaGreatDoor
