/-
  A CLOCK IN MEMORY: its top, its streams' times, its pages' and transactions' times; and what its calls leave alone.
-/
import Derived.Test.YtcdkloohdafbpaaCkMost
namespace Go.Proofs.Ytcdkloohdafbpaa
open Go.RowKit

theorem block_lt' {w : World} {p : Addr} {v : Value} (h : w.cell? p = some v) : p.block < w.heap.size := by
  rcases Nat.lt_or_ge p.block w.heap.size with h1 | h1
  · exact h1
  · simp [World.cell?, Array.getElem?_eq_none h1] at h
/-- What may have turned: the four blocks of a clock; new blocks may have come. -/
structure Fr (C S P T : Nat) (W W' : World) : Prop where
  os : W'.os = W.os
  tape : W'.tape = W.tape
  output : W'.output = W.output
  size : W.heap.size ≤ W'.heap.size
  block : ∀ k, k < W.heap.size → k ≠ C → k ≠ S → k ≠ P → k ≠ T → W'.heap[k]? = W.heap[k]?
section
variable {C S P T : Nat} {W W' W'' : World}
theorem Fr.refl (W : World) : Fr C S P T W W := ⟨rfl, rfl, rfl, Nat.le_refl _, fun _ _ _ _ _ _ => rfl⟩
theorem Fr.trans (h : Fr C S P T W W') (k : Fr C S P T W' W'') : Fr C S P T W W'' :=
  ⟨k.os.trans h.os, k.tape.trans h.tape, k.output.trans h.output, Nat.le_trans h.size k.size, fun i hi a b c d => (k.block i (Nat.lt_of_lt_of_le hi h.size) a b c d).trans (h.block i hi a b c d)⟩
theorem Fr.of_below (h : Below W.heap.size W W') : Fr C S P T W W' := ⟨h.os, h.tape, h.output, h.size, fun i hi _ _ _ _ => h.block i hi⟩
theorem Fr.below (h : Fr C S P T W W') {B : Nat} (hW : B ≤ W.heap.size) (hC : B ≤ C) (hS : B ≤ S) (hP : B ≤ P) (hT : B ≤ T) : Below B W W' :=
  ⟨h.os, h.tape, h.output, h.size, fun i hi => h.block i (by omega) (by omega) (by omega) (by omega) (by omega)⟩
theorem Fr.of_grown {r : Nat} (h : W.grownBy W' (some r)) (hr : r = C ∨ r = S ∨ r = P ∨ r = T) : Fr C S P T W W' :=
  ⟨h.os, h.tape, h.output, h.size, fun i hi a b c d => h.block i hi (by intro e; injection e with e; omega)⟩
theorem Fr.cell (h : Fr C S P T W W') {p : Addr} {v : Value} (hc : W.cell? p = some v) (a : p.block ≠ C) (b : p.block ≠ S) (c : p.block ≠ P) (d : p.block ≠ T) : W'.cell? p = some v :=
  (World.cell?_of_block (h.block p.block (block_lt' hc) a b c d)).trans hc
end
theorem setCell_grown (W : World) (b i : Nat) (v : Value) : W.grownBy (W.setCell ⟨b, i, none⟩ v) (some b) :=
  ⟨rfl, rfl, rfl, by simp [World.setCell], fun k _ hk => Below.heap_setCell _ _ _ _ (fun e => hk (by rw [e]))⟩
def maxN : Int := 4611686018427387903
def Okay (z : Int) : Prop := 0 ≤ z ∧ z ≤ 4611686018427387903
theorem Okay.wf {z : Int} (h : Okay z) : (Lit.int .i64 z).wf = true := by
  obtain ⟨h1, h2⟩ := h
  have e1 : IntKind.i64.min = -9223372036854775808 := by decide
  have e2 : IntKind.i64.max = 9223372036854775807 := by decide
  simp [Lit.wf, e1, e2]
  omega
/-- A clock in memory. -/
structure ClockAt (W : World) (C S P T n k : Nat) (ss : List Int) (fp ft : Int → Int) (top : Int) : Prop where
  c0 : W.cell? ⟨C, 0, none⟩ = some (.int .i64 top)
  c1 : W.cell? ⟨C, 1, none⟩ = some (.slice (some ⟨S, 0, none⟩) n n)
  c2 : W.cell? ⟨C, 2, none⟩ = some (.map (some P))
  c3 : W.cell? ⟨C, 3, none⟩ = some (.map (some T))
  cf : ∀ i, W.frozen? ⟨C, i, none⟩ = false
  sc : ∀ i, i < n → W.cell? ⟨S, i, none⟩ = some (.int .i64 (ss.getD i 0))
  sf : ∀ i, W.frozen? ⟨S, i, none⟩ = false
  sl : ss.length = n
  n1 : 1 ≤ n ∧ n ≤ 8
  pm : TimesAt W P k fp
  tm : TimesAt W T k ft
  ot : Okay top
  os : ∀ i, Okay (ss.getD i 0)
  op : ∀ i, Okay (fp i)
  oy : ∀ i, Okay (ft i)
  cs : C ≠ S
  cp : C ≠ P
  ct : C ≠ T
  sp : S ≠ P
  st : S ≠ T
  pt : P ≠ T
section
variable {W W' : World} {C S P T n k : Nat} {ss : List Int} {fp ft : Int → Int} {top : Int}
/-- All four blocks are there still. -/
theorem ClockAt.of_blocks (h : ClockAt W C S P T n k ss fp ft top) (hC : W'.heap[C]? = W.heap[C]?) (hS : W'.heap[S]? = W.heap[S]?) (hP : W'.heap[P]? = W.heap[P]?) (hT : W'.heap[T]? = W.heap[T]?) : ClockAt W' C S P T n k ss fp ft top :=
  { h with
    c0 := (World.cell?_of_block (a := ⟨C, 0, none⟩) hC).trans h.c0, c1 := (World.cell?_of_block (a := ⟨C, 1, none⟩) hC).trans h.c1, c2 := (World.cell?_of_block (a := ⟨C, 2, none⟩) hC).trans h.c2, c3 := (World.cell?_of_block (a := ⟨C, 3, none⟩) hC).trans h.c3,
    cf := fun i => (World.frozen?_of_block (a := ⟨C, i, none⟩) hC).trans (h.cf i), sc := fun i hi => (World.cell?_of_block (a := ⟨S, i, none⟩) hS).trans (h.sc i hi), sf := fun i => (World.frozen?_of_block (a := ⟨S, i, none⟩) hS).trans (h.sf i),
    pm := h.pm.of_block hP, tm := h.tm.of_block hT }
theorem ClockAt.lts (h : ClockAt W C S P T n k ss fp ft top) : C < W.heap.size ∧ S < W.heap.size ∧ P < W.heap.size ∧ T < W.heap.size :=
  ⟨block_lt' h.c0, block_lt' (h.sc 0 (by have := h.n1; omega)), h.pm.lt, h.tm.lt⟩
theorem ClockAt.below (h : ClockAt W C S P T n k ss fp ft top) (hb : Below W.heap.size W W') : ClockAt W' C S P T n k ss fp ft top := by
  obtain ⟨a, b, c, d⟩ := h.lts
  exact h.of_blocks (hb.block _ a) (hb.block _ b) (hb.block _ c) (hb.block _ d)
/-- Another clock's calls leave it alone. -/
theorem ClockAt.other {C' S' P' T' : Nat} (h : ClockAt W C S P T n k ss fp ft top) (hf : Fr C' S' P' T' W W') (hx : ∀ x y, (x = C ∨ x = S ∨ x = P ∨ x = T) → (y = C' ∨ y = S' ∨ y = P' ∨ y = T') → x ≠ y) : ClockAt W' C S P T n k ss fp ft top := by
  obtain ⟨a, b, c, d⟩ := h.lts
  have key : ∀ x, x < W.heap.size → (x = C ∨ x = S ∨ x = P ∨ x = T) → W'.heap[x]? = W.heap[x]? := fun x hlt hxx =>
    hf.block x hlt (hx x C' hxx (by simp)) (hx x S' hxx (by simp)) (hx x P' hxx (by simp)) (hx x T' hxx (by simp))
  exact h.of_blocks (key _ a (by simp)) (key _ b (by simp)) (key _ c (by simp)) (key _ d (by simp))
theorem ClockAt.mono (h : ClockAt W C S P T n k ss fp ft top) {k' : Nat} (hk : k ≤ k') : ClockAt W C S P T n k' ss fp ft top :=
  { h with pm := h.pm.mono hk, tm := h.tm.mono hk }
/-- The top is written. -/
theorem ClockAt.setTop (h : ClockAt W C S P T n k ss fp ft top) (z : Int) (hz : Okay z) : ClockAt (W.setCell ⟨C, 0, none⟩ (.int .i64 z)) C S P T n k ss fp ft z := by
  have hg := setCell_grown W C 0 (.int .i64 z)
  have hne : ∀ j : Nat, j ≠ 0 → (⟨C, 0, none⟩ : Addr) ≠ ⟨C, j, none⟩ := fun j hj e => by injection e with _ e2; exact hj e2.symm
  obtain ⟨a, b, c, d⟩ := h.lts
  exact { h with
    c0 := World.cell?_setCell_same _ _ _ h.c0
    c1 := by rw [World.cell?_setCell_other _ _ _ _ (hne 1 (by decide))]; exact h.c1
    c2 := by rw [World.cell?_setCell_other _ _ _ _ (hne 2 (by decide))]; exact h.c2
    c3 := by rw [World.cell?_setCell_other _ _ _ _ (hne 3 (by decide))]; exact h.c3
    cf := fun i => by rw [World.frozen?_setCell]; exact h.cf i
    sc := fun i hi => (World.cell?_of_block (a := ⟨S, i, none⟩) (hg.block S b (by intro e; injection e with e; exact h.cs e.symm))).trans (h.sc i hi)
    sf := fun i => by rw [World.frozen?_setCell]; exact h.sf i
    pm := h.pm.kept hg (by intro e; injection e with e; exact h.cp e.symm)
    tm := h.tm.kept hg (by intro e; injection e with e; exact h.ct e.symm)
    ot := hz }
/-- A stream's time is written. -/
theorem ClockAt.setStream (h : ClockAt W C S P T n k ss fp ft top) (i : Nat) (hi : i < n) (z : Int) (hz : Okay z) : ClockAt (W.setCell ⟨S, i, none⟩ (.int .i64 z)) C S P T n k (ss.set i z) fp ft top := by
  have hg := setCell_grown W S i (.int .i64 z)
  obtain ⟨a, b, c, d⟩ := h.lts
  have hgd : ∀ j, (ss.set i z).getD j 0 = if j = i then z else ss.getD j 0 := fun j => by
    simp only [List.getD_eq_getElem?_getD, List.getElem?_set]
    by_cases e : i = j
    · subst e; simp [h.sl, hi]
    · rw [if_neg e, if_neg (fun x => e x.symm)]
  have ne : some C ≠ some S := by intro e; injection e with e; exact h.cs e
  exact { h with
    c0 := (World.cell?_of_block (a := ⟨C, 0, none⟩) (hg.block C a ne)).trans h.c0
    c1 := (World.cell?_of_block (a := ⟨C, 1, none⟩) (hg.block C a ne)).trans h.c1
    c2 := (World.cell?_of_block (a := ⟨C, 2, none⟩) (hg.block C a ne)).trans h.c2
    c3 := (World.cell?_of_block (a := ⟨C, 3, none⟩) (hg.block C a ne)).trans h.c3
    cf := fun i => by rw [World.frozen?_setCell]; exact h.cf i
    sc := fun j hj => by
      rw [hgd]
      by_cases e : j = i
      · subst e
        rw [if_pos rfl]; exact World.cell?_setCell_same _ _ _ (h.sc j hj)
      · rw [if_neg e, World.cell?_setCell_other _ _ _ _ (fun x => by injection x with _ x2; exact e x2.symm)]; exact h.sc j hj
    sf := fun i => by rw [World.frozen?_setCell]; exact h.sf i
    sl := by rw [List.length_set]; exact h.sl
    pm := h.pm.kept hg (by intro e; injection e with e; exact h.sp e.symm)
    tm := h.tm.kept hg (by intro e; injection e with e; exact h.st e.symm)
    os := fun j => by
      rw [hgd]; split
      · exact hz
      · exact h.os j }
/-- A page's time is written. -/
theorem ClockAt.setPages (h : ClockAt W C S P T n k ss fp ft top) {k' : Nat} (hk : k ≤ k') {g : Int → Int} (hg : W.grownBy W' (some P)) (hm : TimesAt W' P k' g) (ho : ∀ i, Okay (g i)) : ClockAt W' C S P T n k' ss g ft top := by
  obtain ⟨a, b, c, d⟩ := h.lts
  have e1 := hg.block C a (by intro e; injection e with e; exact h.cp e)
  have e2 := hg.block S b (by intro e; injection e with e; exact h.sp e)
  have e3 := hg.block T d (by intro e; injection e with e; exact h.pt e.symm)
  exact { h with
    c0 := (World.cell?_of_block (a := ⟨C, 0, none⟩) e1).trans h.c0, c1 := (World.cell?_of_block (a := ⟨C, 1, none⟩) e1).trans h.c1, c2 := (World.cell?_of_block (a := ⟨C, 2, none⟩) e1).trans h.c2, c3 := (World.cell?_of_block (a := ⟨C, 3, none⟩) e1).trans h.c3,
    cf := fun i => (World.frozen?_of_block (a := ⟨C, i, none⟩) e1).trans (h.cf i), sc := fun i hi => (World.cell?_of_block (a := ⟨S, i, none⟩) e2).trans (h.sc i hi), sf := fun i => (World.frozen?_of_block (a := ⟨S, i, none⟩) e2).trans (h.sf i),
    pm := hm, tm := (h.tm.of_block e3).mono hk, op := ho }
/-- A transaction's time is written. -/
theorem ClockAt.setTxns (h : ClockAt W C S P T n k ss fp ft top) {k' : Nat} (hk : k ≤ k') {g : Int → Int} (hg : W.grownBy W' (some T)) (hm : TimesAt W' T k' g) (ho : ∀ i, Okay (g i)) : ClockAt W' C S P T n k' ss fp g top := by
  obtain ⟨a, b, c, d⟩ := h.lts
  have e1 := hg.block C a (by intro e; injection e with e; exact h.ct e)
  have e2 := hg.block S b (by intro e; injection e with e; exact h.st e)
  have e3 := hg.block P c (by intro e; injection e with e; exact h.pt e)
  exact { h with
    c0 := (World.cell?_of_block (a := ⟨C, 0, none⟩) e1).trans h.c0, c1 := (World.cell?_of_block (a := ⟨C, 1, none⟩) e1).trans h.c1, c2 := (World.cell?_of_block (a := ⟨C, 2, none⟩) e1).trans h.c2, c3 := (World.cell?_of_block (a := ⟨C, 3, none⟩) e1).trans h.c3,
    cf := fun i => (World.frozen?_of_block (a := ⟨C, i, none⟩) e1).trans (h.cf i), sc := fun i hi => (World.cell?_of_block (a := ⟨S, i, none⟩) e2).trans (h.sc i hi), sf := fun i => (World.frozen?_of_block (a := ⟨S, i, none⟩) e2).trans (h.sf i),
    pm := (h.pm.of_block e3).mono hk, tm := hm, oy := ho }
theorem updI_ok {f : Int → Int} (h : ∀ i, Okay (f i)) {p z : Int} (hz : Okay z) : ∀ i, Okay (updI f p z i) := fun i => by
  unfold updI; split
  · exact hz
  · exact h i
end

/-! ### what only reads -/
section
variable {W : World} {C S P T n k : Nat} {ss : List Int} {fp ft : Int → Int} {top : Int}
theorem made_any (h : ClockAt W C S P T n k ss fp ft top) : Calls Try.prog 25 #[.pointer (some ⟨C, 0, none⟩)] W fun e w' => e = .returned (.bool true) ∧ W = w' := by
  have h1 := h.c1
  obtain ⟨n0, n8⟩ := h.n1
  have hn : 0 < n := by omega
  go_enter Try.func25, Try.ntmps25
  go_wp2
  go_ret
  exact ⟨rfl, rfl⟩
theorem made_nil (W : World) : Calls Try.prog 25 #[.pointer none] W fun e w' => e = .returned (.bool false) ∧ W = w' := by
  go_enter Try.func25, Try.ntmps25
  go_wp2
  go_ret
  exact ⟨rfl, rfl⟩
theorem page_any (h : ClockAt W C S P T n k ss fp ft top) (p : Int) (hp : (Lit.int .i64 p).wf = true) : Calls Try.prog 12 #[.pointer (some ⟨C, 0, none⟩), .int .i64 p] W fun e w' => e = .returned (.int .i64 (fp p)) ∧ W = w' := by
  have KM := Lib.hid (made_any h)
  have h2 := h.c2
  have hl := h.pm.look p hp
  go_enter Try.func12, Try.ntmps12
  go_wp2_with fail
  refine KM.out.mono ?_
  rintro x w1 ⟨rfl, rfl⟩
  go_wp2
  go_ret
  exact ⟨rfl, rfl⟩
theorem txn_any (h : ClockAt W C S P T n k ss fp ft top) (p : Int) (hp : (Lit.int .i64 p).wf = true) : Calls Try.prog 14 #[.pointer (some ⟨C, 0, none⟩), .int .i64 p] W fun e w' => e = .returned (.int .i64 (ft p)) ∧ W = w' := by
  have KM := Lib.hid (made_any h)
  have h2 := h.c3
  have hl := h.tm.look p hp
  go_enter Try.func14, Try.ntmps14
  go_wp2_with fail
  refine KM.out.mono ?_
  rintro x w1 ⟨rfl, rfl⟩
  go_wp2
  go_ret
  exact ⟨rfl, rfl⟩
theorem top_any (h : ClockAt W C S P T n k ss fp ft top) : Calls Try.prog 11 #[.pointer (some ⟨C, 0, none⟩)] W fun e w' => e = .returned (.int .i64 top) ∧ W = w' := by
  have KM := Lib.hid (made_any h)
  have h2 := h.c0
  go_enter Try.func11, Try.ntmps11
  go_wp2_with fail
  refine KM.out.mono ?_
  rintro x w1 ⟨rfl, rfl⟩
  go_wp2
  go_ret
  exact ⟨rfl, rfl⟩
end
/-- May anything stand there? -/
def mayB (z : Int) : Bool := decide (0 ≤ z) && decide (z ≤ 4611686018427387903)
theorem mayB_iff {z : Int} : mayB z = true ↔ Okay z := by unfold mayB Okay; simp
theorem may_any (z : Int) (W : World) : Calls Try.prog 30 #[.int .i64 z] W fun e w' => e = .returned (.bool (mayB z)) ∧ W = w' := by
  have HB : Hid (mayB z = (decide (0 ≤ z) && decide (z ≤ 4611686018427387903))) := rfl
  by_cases h0 : 0 ≤ z
  · have d0 := Lib.hid (decide_eq_true h0)
    by_cases h1 : z ≤ 4611686018427387903
    · have d1 := Lib.hid (decide_eq_true h1)
      go_enter Try.func30, Try.ntmps30
      go_wp2
      go_ret
      exact ⟨ret_bool (by rw [HB.out, d0.out, d1.out]; rfl), rfl⟩
    · have d1 := Lib.hid (decide_eq_false h1)
      have h1 : 4611686018427387903 < z := by omega
      go_enter Try.func30, Try.ntmps30
      go_wp2
      go_ret
      exact ⟨ret_bool (by rw [HB.out, d0.out, d1.out]; rfl), rfl⟩
  · have d0 := Lib.hid (decide_eq_false h0)
    have h0 : z < 0 := by omega
    go_enter Try.func30, Try.ntmps30
    go_wp2
    go_ret
    exact ⟨ret_bool (by rw [HB.out, d0.out]; rfl), rfl⟩
end Go.Proofs.Ytcdkloohdafbpaa
