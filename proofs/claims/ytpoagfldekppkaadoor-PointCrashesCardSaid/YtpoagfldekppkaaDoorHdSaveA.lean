/-
  head.Save: what stays of its own cells.
-/
import Derived.Test.YtpoagfldekppkaaDoorHdLoad
namespace Go.Proofs.YtpoagfldekppkaaDoor
open Go.RowKit
theorem dev_lts {W : World} {D P L M n k : Nat} {off : Bool} {uses : Int} {armed : Bool} {left : Int} {las : List (List UInt8)} {f : Int → Option (List UInt8)} (h : Dv.DevAt W D P L M n k off uses armed left las f) : P < W.heap.size ∧ L < W.heap.size ∧ M < W.heap.size := by
  refine ⟨Dv.block_lt (p := ⟨P, 0, none⟩) h.p0, Dv.blk_lt h.lb, ?_⟩
  obtain ⟨_, ho, _⟩ := h.mp
  exact ho.lt
theorem Dv.DevAt.blocks {W W' : World} {D P L M n k : Nat} {off : Bool} {uses : Int} {armed : Bool} {left : Int} {las : List (List UInt8)} {f : Int → Option (List UInt8)} (h : Dv.DevAt W D P L M n k off uses armed left las f)
    (hD : W'.heap[D]? = W.heap[D]?) (hP : W'.heap[P]? = W.heap[P]?) (hL : W'.heap[L]? = W.heap[L]?) (hM : W'.heap[M]? = W.heap[M]?) : Dv.DevAt W' D P L M n k off uses armed left las f where
  d0 := (World.cell?_of_block (a := ⟨D, 0, none⟩) hD).trans h.d0
  d1 := (World.cell?_of_block (a := ⟨D, 1, none⟩) hD).trans h.d1
  d2 := (World.cell?_of_block (a := ⟨D, 2, none⟩) hD).trans h.d2
  p0 := (World.cell?_of_block (a := ⟨P, 0, none⟩) hP).trans h.p0
  p1 := (World.cell?_of_block (a := ⟨P, 1, none⟩) hP).trans h.p1
  p2 := (World.cell?_of_block (a := ⟨P, 2, none⟩) hP).trans h.p2
  p3 := (World.cell?_of_block (a := ⟨P, 3, none⟩) hP).trans h.p3
  pf := fun i => (World.frozen?_of_block (a := ⟨P, i, none⟩) hP).trans (h.pf i)
  lb := hL.trans h.lb
  ll := h.ll
  l64 := h.l64
  mp := by
    obtain ⟨D0, ⟨es, clock, hb, F, hs, hD⟩, h5⟩ := h.mp
    exact ⟨D0, ⟨es, clock, hM.trans hb, F, hs, hD⟩, h5⟩
  dp := h.dp
  dl := h.dl
  dm := h.dm
  pl := h.pl
  pm := h.pm
  lm := h.lm
/-- Save's walk: the result's cells, the head's own. -/
structure SvW (P L M : Nat) (w W : World) (R Q : Nat) (s e c st m : Int) : Prop where
  r : C5 W R z64 z64 z64 z64 z64
  rf : ∀ i, W.frozen? ⟨R, i, none⟩ = false
  q : H5 W Q s e c st m
  fr : Dv.Fr3 P L M w W
  hR : w.heap.size ≤ R
  hQ : w.heap.size ≤ Q
  hne : R ≠ Q
  hP : P < w.heap.size ∧ L < w.heap.size ∧ M < w.heap.size
theorem SvW.fr3 {P L M : Nat} {w W X : World} {R Q : Nat} {s e c st m : Int} (h : SvW P L M w W R Q s e c st m) (g : Dv.Fr3 P L M W X) : SvW P L M w X R Q s e c st m := by
  obtain ⟨h1, h2, h3⟩ := h.hP
  have hR := h.hR
  have hQ := h.hQ
  have kc : ∀ {i v}, W.cell? ⟨R, i, none⟩ = some v → X.cell? ⟨R, i, none⟩ = some v := fun hc => g.cell hc (show R ≠ P by omega) (show R ≠ L by omega) (show R ≠ M by omega)
  have kq : ∀ {i v}, W.cell? ⟨Q, i, none⟩ = some v → X.cell? ⟨Q, i, none⟩ = some v := fun hc => g.cell hc (show Q ≠ P by omega) (show Q ≠ L by omega) (show Q ≠ M by omega)
  exact ⟨⟨kc h.r.c0, kc h.r.c1, kc h.r.c2, kc h.r.c3, kc h.r.c4⟩, fun i => (World.frozen?_of_block (a := ⟨R, i, none⟩) (g.block R (blk_of h.r.c0) (by omega) (by omega) (by omega))).trans (h.rf i),
    ⟨⟨kq h.q.h.c0, kq h.q.h.c1, kq h.q.h.c2, kq h.q.h.c3, kq h.q.h.c4⟩, fun i => (World.frozen?_of_block (a := ⟨Q, i, none⟩) (g.block Q (blk_of h.q.h.c0) (by omega) (by omega) (by omega))).trans (h.q.hf i)⟩,
    h.fr.trans g, h.hR, h.hQ, h.hne, h.hP⟩
theorem SvW.seq {P L M : Nat} {w W : World} {R Q : Nat} {s e c st m : Int} (h : SvW P L M w W R Q s e c st m) (s2 : Int) : SvW P L M w (W.setCell ⟨Q, 0, none⟩ (.int .i64 s2)) R Q s2 e c st m := by
  obtain ⟨h1, h2, h3⟩ := h.hP
  have hQ := h.hQ
  have o : ∀ {j v}, j ≠ 0 → W.cell? ⟨Q, j, none⟩ = some v → (W.setCell ⟨Q, 0, none⟩ (.int .i64 s2)).cell? ⟨Q, j, none⟩ = some v := fun hj hc => by
    rw [World.cell?_setCell_other _ _ _ _ (fun e => by injection e with _ e2; exact hj e2.symm)]; exact hc
  refine ⟨h.r.other h.hne, fun i => by rw [World.frozen?_setCell]; exact h.rf i, ⟨⟨World.cell?_setCell_same _ _ _ h.q.h.c0, o (by decide) h.q.h.c1, o (by decide) h.q.h.c2, o (by decide) h.q.h.c3, o (by decide) h.q.h.c4⟩, fun i => by rw [World.frozen?_setCell]; exact h.q.hf i⟩, ?_, h.hR, h.hQ, h.hne, h.hP⟩
  have hb : Below w.heap.size W (W.setCell ⟨Q, 0, none⟩ (.int .i64 s2)) := (Below.refl _ _).setCell hQ _
  exact ⟨hb.os.trans h.fr.os, hb.tape.trans h.fr.tape, hb.output.trans h.fr.output, Nat.le_trans h.fr.size hb.size, fun k hk a b d => (hb.block k hk).trans (h.fr.block k hk a b d)⟩
theorem svW_new {w : World} {D P L M n k : Nat} {off : Bool} {uses : Int} {armed : Bool} {left : Int} {las : List (List UInt8)} {f : Int → Option (List UInt8)} (h : Dv.DevAt w D P L M n k off uses armed left las f) (s e c st m : Int) (T : TypeId) :
    SvW P L M w ((w.alloc (.cells #[.int .i64 s, .int .i64 e, .int .i64 c, .int .i64 st, .int .i64 m] T)).alloc (.cells #[z64, z64, z64, z64, z64] T)) (w.heap.size + 1) w.heap.size s e c st m := by
  obtain ⟨z, q⟩ := save_new w s e c st m T
  exact ⟨z.r, z.rf, q, Dv.Fr3.of_below z.bw, Nat.le_succ _, Nat.le_refl _, by omega, dev_lts h⟩
theorem svW_dev {P L M : Nat} {w W : World} {R Q D n k : Nat} {s e c st m : Int} {off : Bool} {uses : Int} {armed : Bool} {left : Int} {las : List (List UInt8)} {f : Int → Option (List UInt8)} (h : SvW P L M w W R Q s e c st m) (hd : Dv.DevAt W D P L M n k off uses armed left las f) (hD : D < w.heap.size) (s2 : Int) :
    Dv.DevAt (W.setCell ⟨Q, 0, none⟩ (.int .i64 s2)) D P L M n k off uses armed left las f := by
  obtain ⟨h1, h2, h3⟩ := h.hP
  have hb : Below w.heap.size W (W.setCell ⟨Q, 0, none⟩ (.int .i64 s2)) := (Below.refl _ _).setCell h.hQ _
  exact hd.blocks (hb.block D hD) (hb.block P h1) (hb.block L h2) (hb.block M h3)
theorem fr3_low {P L M : Nat} {w W X : World} (h : Dv.Fr3 P L M w W) (hb : Below w.heap.size W X) : Dv.Fr3 P L M w X :=
  ⟨hb.os.trans h.os, hb.tape.trans h.tape, hb.output.trans h.output, Nat.le_trans h.size hb.size, fun k hk a b d => (hb.block k hk).trans (h.block k hk a b d)⟩
theorem svW_out {P L M : Nat} {w W : World} {R Q D n k : Nat} {s e c st m : Int} {off : Bool} {uses : Int} {armed : Bool} {left : Int} {las : List (List UInt8)} {f : Int → Option (List UInt8)} (h : SvW P L M w W R Q s e c st m) (hd : Dv.DevAt W D P L M n k off uses armed left las f) (hD : D < w.heap.size) (v0 v1 v2 v3 v4 : Value) :
    ∃ X, ((((W.setCell ⟨R, 0, none⟩ v0).setCell ⟨R, 1, none⟩ v1).setCell ⟨R, 2, none⟩ v2).setCell ⟨R, 3, none⟩ v3).setCell ⟨R, 4, none⟩ v4 = X ∧ C5 X R v0 v1 v2 v3 v4 ∧ Dv.DevAt X D P L M n k off uses armed left las f ∧ Dv.Fr3 P L M w X := by
  have hR := h.hR
  obtain ⟨h1, h2, h3⟩ := h.hP
  have hb : Below w.heap.size W (((((W.setCell ⟨R, 0, none⟩ v0).setCell ⟨R, 1, none⟩ v1).setCell ⟨R, 2, none⟩ v2).setCell ⟨R, 3, none⟩ v3).setCell ⟨R, 4, none⟩ v4) := (((((Below.refl _ _).setCell hR _).setCell hR _).setCell hR _).setCell hR _).setCell hR _
  exact ⟨_, rfl, set5_cells h.r, hd.blocks (hb.block D hD) (hb.block P h1) (hb.block L h2) (hb.block M h3), fr3_low h.fr hb⟩
end Go.Proofs.YtpoagfldekppkaaDoor
