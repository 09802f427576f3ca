/-
  A MASTER IN MEMORY, and what changes by what is done to it: its own block, its device's three.
-/
import Derived.Test.YtpoagfldekppkaaDoorPtHead
import Derived.Test.YtpoagfldekppkaaDoorHdKeep
namespace Go.Proofs.YtpoagfldekppkaaDoor
open Go.RowKit
/-- A master's cells. -/
structure MsAt (W : World) (A : Nat) (lo nx : Int) (da : Option Addr) (sq : Int) : Prop where
  c0 : W.cell? ⟨A, 0, none⟩ = some (.int .i64 lo)
  c1 : W.cell? ⟨A, 1, none⟩ = some (.int .i64 nx)
  c2 : W.cell? ⟨A, 2, none⟩ = some (.pointer da)
  c3 : W.cell? ⟨A, 3, none⟩ = some (.int .i64 sq)
  fz : ∀ i, W.frozen? ⟨A, i, none⟩ = false
theorem MsAt.below {W X : World} {A : Nat} {da : Option Addr} {lo nx sq : Int} (h : MsAt W A lo nx da sq) (hb : Below W.heap.size W X) : MsAt X A lo nx da sq :=
  ⟨keep_h hb h.c0, keep_h hb h.c1, keep_h hb h.c2, keep_h hb h.c3, fun i => (hb.frozen (p := ⟨A, i, none⟩) (show A < W.heap.size from blk_of h.c0)).trans (h.fz i)⟩
theorem MsAt.fr3 {W X : World} {A P L M : Nat} {da : Option Addr} {lo nx sq : Int} (h : MsAt W A lo nx da sq) (g : Dv.Fr3 P L M W X) (hA : A ≠ P ∧ A ≠ L ∧ A ≠ M) : MsAt X A lo nx da sq :=
  ⟨g.cell h.c0 hA.1 hA.2.1 hA.2.2, g.cell h.c1 hA.1 hA.2.1 hA.2.2, g.cell h.c2 hA.1 hA.2.1 hA.2.2, g.cell h.c3 hA.1 hA.2.1 hA.2.2,
   fun i => (World.frozen?_of_block (a := ⟨A, i, none⟩) (g.block A (blk_of h.c0) hA.1 hA.2.1 hA.2.2)).trans (h.fz i)⟩
theorem MsAt.new (W : World) (lo nx : Int) (da : Option Addr) (sq : Int) (T : TypeId) : MsAt (W.alloc (.cells #[.int .i64 lo, .int .i64 nx, .pointer da, .int .i64 sq] T)) W.heap.size lo nx da sq :=
  ⟨new_h rfl rfl, new_h rfl rfl, new_h rfl rfl, new_h rfl rfl, fun _ => World.frozen?_alloc_at _ _ _ _ rfl⟩
/-- A frame: all blocks but a device's three, and a master's. -/
structure Fr4 (P L M A : Nat) (W W' : World) : Prop where
  os : W'.os = W.os
  tape : W'.tape = W.tape
  output : W'.output = W.output
  size : W.heap.size ≤ W'.heap.size
  block : ∀ k, k < W.heap.size → k ≠ P → k ≠ L → k ≠ M → k ≠ A → W'.heap[k]? = W.heap[k]?
theorem Fr4.refl (P L M A : Nat) (W : World) : Fr4 P L M A W W := ⟨rfl, rfl, rfl, Nat.le_refl _, fun _ _ _ _ _ _ => rfl⟩
theorem Fr4.trans {P L M A : Nat} {a b c : World} (h : Fr4 P L M A a b) (g : Fr4 P L M A b c) : Fr4 P L M A a c :=
  ⟨g.os.trans h.os, g.tape.trans h.tape, g.output.trans h.output, Nat.le_trans h.size g.size, fun k hk h1 h2 h3 h4 => (g.block k (Nat.lt_of_lt_of_le hk h.size) h1 h2 h3 h4).trans (h.block k hk h1 h2 h3 h4)⟩
theorem Fr4.of3 {P L M A : Nat} {a b : World} (h : Dv.Fr3 P L M a b) : Fr4 P L M A a b := ⟨h.os, h.tape, h.output, h.size, fun k hk h1 h2 h3 _ => h.block k hk h1 h2 h3⟩
theorem Fr4.of_below {P L M A : Nat} {a b : World} (h : Below a.heap.size a b) : Fr4 P L M A a b := .of3 (.of_below h)
theorem Fr4.below {P L M A B : Nat} {W W' : World} (h : Fr4 P L M A W W') (hB : B ≤ W.heap.size) (h1 : B ≤ P ∧ B ≤ L ∧ B ≤ M ∧ B ≤ A) : Below B W W' :=
  ⟨h.os, h.tape, h.output, h.size, fun k hk => h.block k (by omega) (by omega) (by omega) (by omega) (by omega)⟩
theorem Fr4.setB {P L M A R i : Nat} {v : Value} {a b : World} (h : Fr4 P L M A a b) (hR : a.heap.size ≤ R) : Fr4 P L M A a (b.setCell ⟨R, i, none⟩ v) := by
  have hg := Dv.setCell_grown b R i v
  exact ⟨hg.os.trans h.os, hg.tape.trans h.tape, hg.output.trans h.output, Nat.le_trans h.size hg.size, fun k hk h1 h2 h3 h4 => (hg.block k (Nat.lt_of_lt_of_le hk h.size) (fun e => by injection e with e; omega)).trans (h.block k hk h1 h2 h3 h4)⟩
theorem Fr4.set {P L M A i : Nat} {v : Value} {a b : World} (h : Fr4 P L M A a b) : Fr4 P L M A a (b.setCell ⟨A, i, none⟩ v) := by
  have hg := Dv.setCell_grown b A i v
  exact ⟨hg.os.trans h.os, hg.tape.trans h.tape, hg.output.trans h.output, Nat.le_trans h.size hg.size, fun k hk h1 h2 h3 h4 => (hg.block k (Nat.lt_of_lt_of_le hk h.size) (fun e => by injection e with e; exact h4 e)).trans (h.block k hk h1 h2 h3 h4)⟩
theorem Fr4.cell {P L M A : Nat} {W W' : World} (h : Fr4 P L M A W W') {p : Addr} {v : Value} (hc : W.cell? p = some v) (h1 : p.block ≠ P ∧ p.block ≠ L ∧ p.block ≠ M ∧ p.block ≠ A) : W'.cell? p = some v :=
  (World.cell?_of_block (h.block p.block (blk_of hc) h1.1 h1.2.1 h1.2.2.1 h1.2.2.2)).trans hc
/-- The master's cells behind a save. -/
theorem MsAt.put {W : World} {A : Nat} {da : Option Addr} {lo nx sq : Int} (h : MsAt W A lo nx da sq) (lo2 nx2 sq2 : Int) :
    MsAt (((W.setCell ⟨A, 0, none⟩ (.int .i64 lo2)).setCell ⟨A, 1, none⟩ (.int .i64 nx2)).setCell ⟨A, 3, none⟩ (.int .i64 sq2)) A lo2 nx2 da sq2 := by
  have o : ∀ {X : World} {i j : Nat} {v u : Value}, i ≠ j → X.cell? ⟨A, j, none⟩ = some v → (X.setCell ⟨A, i, none⟩ u).cell? ⟨A, j, none⟩ = some v := fun hne hc => by
    rw [World.cell?_setCell_other _ _ _ _ (fun e => by injection e with _ e2; exact hne e2)]; exact hc
  have s : ∀ {X : World} {i : Nat} {v u : Value}, X.cell? ⟨A, i, none⟩ = some v → (X.setCell ⟨A, i, none⟩ u).cell? ⟨A, i, none⟩ = some u := fun hc => World.cell?_setCell_same _ _ _ hc
  refine ⟨o (by decide) (o (by decide) (s h.c0)), o (by decide) (s (o (by decide) h.c1)), o (by decide) (o (by decide) (o (by decide) h.c2)), s (o (by decide) (o (by decide) h.c3)), fun i => ?_⟩
  simp only [World.frozen?_setCell]
  exact h.fz i
theorem dev_set {W : World} {D P L M n k A i : Nat} {v : Value} {off : Bool} {uses : Int} {armed : Bool} {left : Int} {las : List (List UInt8)} {f : Int → Option (List UInt8)} (h : Dv.DevAt W D P L M n k off uses armed left las f) (hA : A ≠ D ∧ A ≠ P ∧ A ≠ L ∧ A ≠ M) :
    Dv.DevAt (W.setCell ⟨A, i, none⟩ v) D P L M n k off uses armed left las f := by
  have hb : ∀ k, k ≠ A → (W.setCell ⟨A, i, none⟩ v).heap[k]? = W.heap[k]? := fun k hk => heap_setCell_other W ⟨A, i, none⟩ k v hk
  exact h.blocks (hb D (Ne.symm hA.1)) (hb P (Ne.symm hA.2.1)) (hb L (Ne.symm hA.2.2.1)) (hb M (Ne.symm hA.2.2.2))
/-- What is kept, as it stands in a world: a predicate on worlds that neither a store into the master nor new blocks break. -/
structure Keeps (A B : Nat) (Q : World → Prop) : Prop where
  set : ∀ X b i v, b = A ∨ B ≤ b → Q X → Q (X.setCell ⟨b, i, none⟩ v)
  below : ∀ X Y, Q X → Below X.heap.size X Y → Q Y
/-- Behind the call within a save: the head's cells (R), the point's (q), the master's. -/
structure SvM (Q : World → Prop) (P L M A q R : Nat) (da : Option Addr) (lo nx sq pl pn r0 : Int) (W X : World) : Prop where
  r : X.cell? ⟨R, 0, none⟩ = some (.int .i64 r0)
  n0 : X.cell? ⟨q, 0, none⟩ = some (.int .i64 pl)
  n1 : X.cell? ⟨q, 1, none⟩ = some (.int .i64 pn)
  m : MsAt X A lo nx da sq
  k : Q X
  fr : Fr4 P L M A W X
/-- A device that keeps a head. -/
def LvN (W : World) (D P L M n : Nat) (armed : Bool) (left : Int) (b : Nat) (now : Hd5) : Prop := ∃ kk uses las, Dv.DevAt W D P L M n kk false uses armed left las (fun _ => none) ∧ kk ≤ b ∧ (0 ≤ uses ∧ uses ≤ 2 * (b : Int)) ∧ Kp las now
theorem LvN.below {W X : World} {D P L M n b : Nat} {armed : Bool} {left : Int} {now : Hd5} (h : LvN W D P L M n armed left b now) (hb : Below W.heap.size W X) : LvN X D P L M n armed left b now := by
  obtain ⟨kk, uses, las, hd, hk⟩ := h
  exact ⟨kk, uses, las, hd.below hb, hk⟩
theorem LvN.lts {W : World} {D P L M n b : Nat} {armed : Bool} {left : Int} {now : Hd5} (h : LvN W D P L M n armed left b now) : D < W.heap.size ∧ P < W.heap.size ∧ L < W.heap.size ∧ M < W.heap.size := by
  obtain ⟨kk, uses, las, hd, hk⟩ := h
  exact ⟨dev_D hd, dev_lts hd⟩
theorem lv_keeps {A B D P L M n b : Nat} {armed : Bool} {left : Int} {now : Hd5} (hA : A ≠ D ∧ A ≠ P ∧ A ≠ L ∧ A ≠ M) (hB : D < B ∧ P < B ∧ L < B ∧ M < B) : Keeps A B (fun X => LvN X D P L M n armed left b now) where
  set := fun X b' i v hb h => by
    obtain ⟨kk, uses, las, hd, hk⟩ := h
    exact ⟨kk, uses, las, dev_set hd (by rcases hb with rfl | hb <;> omega), hk⟩
  below := fun X Y h hb => h.below hb
end Go.Proofs.YtpoagfldekppkaaDoor
