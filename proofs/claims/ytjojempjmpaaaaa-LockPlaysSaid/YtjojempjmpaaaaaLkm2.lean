/-
  A KEY's LOCK: who clashes, the first one, the ends, whether a claim is free.
  A KEY's LOCK: the first waiter, the ends of a queue, whether a claim goes together with all holders.
  A TABLE OF LOCKS IN MEMORY.
  A TABLE OF LOCKS: New, made, strings.Clone, kept, lockOf.
-/
import Derived.Test.YtjojempjmpaaaaaLkm1
import Derived.Shelf.Abstract
import Derived.Test.YtjojempjmpaaaaaJoin
namespace Go.Proofs.Ytjojempjmpaaaaa
open Go.RowKit
/-- What a waiter claims. -/
structure Wc where
  k : ByteArray
  wr : Bool
  ow : Int
structure WtAt (W : World) (w : Nat) (x : Wc) : Prop where
  c0 : W.cell? ⟨w, 0, none⟩ = some (.string x.k)
  c1 : W.cell? ⟨w, 1, none⟩ = some (.bool x.wr)
  c2 : W.cell? ⟨w, 2, none⟩ = some (.int .i64 x.ow)
/-- Another owner's claim that doesn't go together with this one's. -/
def clash (x y : Wc) : Bool := (!(decide (y.ow = x.ow))) && (x.wr || y.wr)
section
variable {W X : World} {w o K : Nat} {x y : Wc} {S : Nat → Nat → Prop}
theorem WtAt.keep (h : WtAt W w x) (hc : Cf W X S) (hn : ∀ i, i < 3 → ¬ S w i) : WtAt X w x := ⟨hc.cell _ _ _ (hn 0 (by decide)) h.c0, hc.cell _ _ _ (hn 1 (by decide)) h.c1, hc.cell _ _ _ (hn 2 (by decide)) h.c2⟩
theorem WtAt.below (h : WtAt W w x) (hb : Below W.heap.size W X) : WtAt X w x := ⟨keep_cell hb h.c0, keep_cell hb h.c1, keep_cell hb h.c2⟩
theorem WtAt.lt (h : WtAt W w x) : w < W.heap.size := block_lt (p := ⟨w, 0, none⟩) h.c0
theorem together_any (k1 k2 : ByteArray) (a b : Bool) (W : World) : Calls Try.prog 65 #[.agg #[.string k1, .bool a], .agg #[.string k2, .bool b]] W fun e W' => e = .returned (.bool (!(a || b))) ∧ Below W.heap.size W W' := by
  have hb : Below W.heap.size W ((W.alloc (.cells #[.string k1, .bool a] 40)).alloc (.cells #[.string k2, .bool b] 40)) := ((Below.refl _ _).alloc (Nat.le_refl _) _).alloc (by simp only [World.size_alloc]; omega) _
  have HB := Lib.hid hb
  clear hb
  cases a <;> cases b
  all_goals
    go_enter Try.func65, Try.ntmps65
    go_wp2
    go_ret
    exact ⟨rfl, HB.out⟩
/-- Where the rest of a region only reads: in the text's order. -/
theorem wpAny_rest {P : Program} {l : List Oper} {fuel : Nat} {listed : Array Bool} {a : Act} {w : World} {Q : Exit → Act → World → Prop} (k : Nat) (hf : fuel = (l.drop k).length)
    (hB : (Region.noSelect l.toArray && Region.lexFrom .any l.toArray (l.drop k).length k listed) = true) (h : wpStill P l.toArray w (fun a' => Q .normal a' w) (l.drop k) a) : wpAny P .any l.toArray Q fuel listed a w := by
  rw [Bool.and_eq_true] at hB
  subst hf
  exact wpAny_of_still (Q := fun a' => Q .normal a' w) (fun _ h => h) _ _ _ (wpAnyS_lex hB.1 _ k listed a (fun j => by simp) hB.2 h)
theorem WtAt.drew (h : WtAt W w x) : WtAt W.drew w x := ⟨h.c0, h.c1, h.c2⟩
set_option maxRecDepth 100000 in
set_option maxHeartbeats 1000000 in
theorem clashes_any (hw : WtAt W w x) (ho : WtAt W o y) : Calls Try.prog 56 #[.pointer (some ⟨w, 0, none⟩), .pointer (some ⟨o, 0, none⟩)] W fun e W' => e = .returned (.bool (clash x y)) ∧ Below W.heap.size W W' := by
  have HC : Hid (clash x y = ((!(decide (y.ow = x.ow))) && (x.wr || y.wr))) := rfl
  obtain ⟨xk, xw, xo⟩ := x
  obtain ⟨yk, yw, yo⟩ := y
  generalize clash ⟨xk, xw, xo⟩ ⟨yk, yw, yo⟩ = r at *
  have HB : Hid (Below W.heap.size W W.drew) := (Below.refl _ _).drew
  by_cases e : yo = xo
  · have hr : r = false := by rw [HC.out]; simp [e]
    subst hr
    subst e
    obtain ⟨a0, a1, a2⟩ := hw.drew
    obtain ⟨b0, b1, b2⟩ := ho.drew
    dsimp only at a0 a1 a2 b0 b1 b2
    clear hw ho HC
    go_enter Try.func56, Try.ntmps56
    go_upto_region 1 with fail
    refine wp_region_held_drew (S := fun w' => Below W.heap.size W w' ∧ w'.cell? ⟨w, 2, none⟩ = some (.int .i64 yo) ∧ w'.cell? ⟨o, 2, none⟩ = some (.int .i64 yo)) (by kernel_rfl) ?_ (fun hHeld => ?_)
    · (try dsimp only); (first | exact ⟨HB.out, a2, b2⟩ | assumption)
    refine wpAnyH_take (i := 0) (oi := { dst := some 5, op := Op.move (Operand.tmp 1), type := 72, pos := "queue.go:15", after := #[], guard := none }) (v := ?_) rfl (by kernel_rfl) (by kernel_rfl) (by kernel_rfl) (fun _ _ _ h => h) (Or.inl ⟨by rfl, ?_⟩) (by assumption) ?_
    rotate_left 1
    · (intro w' hSw; (try dsimp only at hSw); go_simp; try (with_reducible rfl))
    try simp only [Act.put, List.setIfInBounds_toArray, List.set_cons_zero, List.set_cons_succ]
    refine wpAnyH_take (i := 1) (oi := { dst := some 6, op := Op.nilCheck (Operand.tmp 5), type := 0, pos := "queue.go:15", after := #[{ on := 0, ground := Ground.data }], guard := none }) (v := ?_) rfl (by kernel_rfl) (by kernel_rfl) (by kernel_rfl) (fun _ _ _ h => h) (Or.inl ⟨by rfl, ?_⟩) (by assumption) ?_
    rotate_left 1
    · (intro w' hSw; (try dsimp only at hSw); go_simp; try (with_reducible rfl))
    try simp only [Act.put, List.setIfInBounds_toArray, List.set_cons_zero, List.set_cons_succ]
    refine wpAnyH_take (i := 2) (oi := { dst := some 7, op := Op.fieldAddr 75 (Operand.tmp 6) 1, type := 0, pos := "queue.go:15", after := #[{ on := 1, ground := Ground.data }], guard := none }) (v := ?_) rfl (by kernel_rfl) (by kernel_rfl) (by kernel_rfl) (fun _ _ _ h => h) (Or.inl ⟨by rfl, ?_⟩) (by assumption) ?_
    rotate_left 1
    · (intro w' hSw; (try dsimp only at hSw); go_simp; try (with_reducible rfl))
    try simp only [Act.put, List.setIfInBounds_toArray, List.set_cons_zero, List.set_cons_succ]
    refine wpAnyH_take (i := 3) (oi := { dst := some 8, op := Op.load 3 (Operand.tmp 7), type := 3, pos := "queue.go:15", after := #[{ on := 2, ground := Ground.data }], guard := none }) (v := ?_) rfl (by kernel_rfl) (by kernel_rfl) (by kernel_rfl) (fun _ _ _ h => h) (Or.inl ⟨by rfl, ?_⟩) (by assumption) ?_
    rotate_left 1
    · (intro w' hSw; (try dsimp only at hSw); go_simp; try (with_reducible rfl))
    try simp only [Act.put, List.setIfInBounds_toArray, List.set_cons_zero, List.set_cons_succ]
    refine wpAnyH_take (i := 4) (oi := { dst := some 9, op := Op.move (Operand.tmp 0), type := 72, pos := "queue.go:15", after := #[], guard := none }) (v := ?_) rfl (by kernel_rfl) (by kernel_rfl) (by kernel_rfl) (fun _ _ _ h => h) (Or.inl ⟨by rfl, ?_⟩) (by assumption) ?_
    rotate_left 1
    · (intro w' hSw; (try dsimp only at hSw); go_simp; try (with_reducible rfl))
    try simp only [Act.put, List.setIfInBounds_toArray, List.set_cons_zero, List.set_cons_succ]
    refine wpAnyH_take (i := 5) (oi := { dst := some 10, op := Op.nilCheck (Operand.tmp 9), type := 0, pos := "queue.go:15", after := #[{ on := 4, ground := Ground.data }], guard := none }) (v := ?_) rfl (by kernel_rfl) (by kernel_rfl) (by kernel_rfl) (fun _ _ _ h => h) (Or.inl ⟨by rfl, ?_⟩) (by assumption) ?_
    rotate_left 1
    · (intro w' hSw; (try dsimp only at hSw); go_simp; try (with_reducible rfl))
    try simp only [Act.put, List.setIfInBounds_toArray, List.set_cons_zero, List.set_cons_succ]
    refine wpAnyH_take (i := 6) (oi := { dst := some 11, op := Op.fieldAddr 75 (Operand.tmp 10) 1, type := 0, pos := "queue.go:15", after := #[{ on := 5, ground := Ground.data }], guard := none }) (v := ?_) rfl (by kernel_rfl) (by kernel_rfl) (by kernel_rfl) (fun _ _ _ h => h) (Or.inl ⟨by rfl, ?_⟩) (by assumption) ?_
    rotate_left 1
    · (intro w' hSw; (try dsimp only at hSw); go_simp; try (with_reducible rfl))
    try simp only [Act.put, List.setIfInBounds_toArray, List.set_cons_zero, List.set_cons_succ]
    refine wpAnyH_take (i := 7) (oi := { dst := some 12, op := Op.load 3 (Operand.tmp 11), type := 3, pos := "queue.go:15", after := #[{ on := 6, ground := Ground.data }], guard := none }) (v := ?_) rfl (by kernel_rfl) (by kernel_rfl) (by kernel_rfl) (fun _ _ _ h => h) (Or.inl ⟨by rfl, ?_⟩) (by assumption) ?_
    rotate_left 1
    · (intro w' hSw; (try dsimp only at hSw); go_simp; try (with_reducible rfl))
    try simp only [Act.put, List.setIfInBounds_toArray, List.set_cons_zero, List.set_cons_succ]
    refine wpAnyH_take (i := 8) (oi := { dst := some 13, op := Op.binOp BinOp.neq 3 (Operand.tmp 8) (Operand.tmp 12) 3, type := 4, pos := "queue.go:15", after := #[{ on := 3, ground := Ground.data }, { on := 7, ground := Ground.data }], guard := none }) (v := ?_) rfl (by kernel_rfl) (by kernel_rfl) (by kernel_rfl) (fun _ _ _ h => h) (Or.inl ⟨by rfl, ?_⟩) (by assumption) ?_
    rotate_left 1
    · (intro w' hSw; (try dsimp only at hSw); go_simp; try (with_reducible rfl))
    try simp only [Act.put, List.setIfInBounds_toArray, List.set_cons_zero, List.set_cons_succ]
    refine wpAnyH_take (i := 9) (oi := { dst := some 14, op := Op.move (Operand.tmp 13), type := 4, pos := "queue.go:15", after := #[{ on := 8, ground := Ground.data }], guard := none }) (v := ?_) rfl (by kernel_rfl) (by kernel_rfl) (by kernel_rfl) (fun _ _ _ h => h) (Or.inl ⟨by rfl, ?_⟩) (by assumption) ?_
    rotate_left 1
    · (intro w' hSw; (try dsimp only at hSw); go_simp; try (with_reducible rfl))
    try simp only [Act.put, List.setIfInBounds_toArray, List.set_cons_zero, List.set_cons_succ]
    refine wpAnyH_take (i := 10) (oi := { dst := some 15, op := Op.move (Operand.tmp 0), type := 72, pos := "queue.go:15", after := #[{ on := 9, ground := Ground.guard }], guard := some (9, true) }) (v := undef) rfl (by kernel_rfl) (by kernel_rfl) (by kernel_rfl) (fun _ _ _ h => h) (Or.inr ⟨by rfl, rfl⟩) (by assumption) ?_
    try simp only [Act.put, List.setIfInBounds_toArray, List.set_cons_zero, List.set_cons_succ]
    refine wpAnyH_take (i := 11) (oi := { dst := some 16, op := Op.nilCheck (Operand.tmp 15), type := 0, pos := "queue.go:15", after := #[{ on := 10, ground := Ground.data }, { on := 9, ground := Ground.guard }], guard := some (9, true) }) (v := undef) rfl (by kernel_rfl) (by kernel_rfl) (by kernel_rfl) (fun _ _ _ h => h) (Or.inr ⟨by rfl, rfl⟩) (by assumption) ?_
    try simp only [Act.put, List.setIfInBounds_toArray, List.set_cons_zero, List.set_cons_succ]
    refine wpAnyH_take (i := 12) (oi := { dst := some 17, op := Op.fieldAddr 75 (Operand.tmp 16) 0, type := 0, pos := "queue.go:15", after := #[{ on := 11, ground := Ground.data }, { on := 9, ground := Ground.guard }], guard := some (9, true) }) (v := undef) rfl (by kernel_rfl) (by kernel_rfl) (by kernel_rfl) (fun _ _ _ h => h) (Or.inr ⟨by rfl, rfl⟩) (by assumption) ?_
    try simp only [Act.put, List.setIfInBounds_toArray, List.set_cons_zero, List.set_cons_succ]
    refine wpAnyH_take (i := 13) (oi := { dst := some 18, op := Op.load 40 (Operand.tmp 17), type := 40, pos := "queue.go:15", after := #[{ on := 12, ground := Ground.data }, { on := 9, ground := Ground.guard }], guard := some (9, true) }) (v := undef) rfl (by kernel_rfl) (by kernel_rfl) (by kernel_rfl) (fun _ _ _ h => h) (Or.inr ⟨by rfl, rfl⟩) (by assumption) ?_
    try simp only [Act.put, List.setIfInBounds_toArray, List.set_cons_zero, List.set_cons_succ]
    refine wpAnyH_take (i := 14) (oi := { dst := some 19, op := Op.move (Operand.tmp 1), type := 72, pos := "queue.go:15", after := #[{ on := 9, ground := Ground.guard }], guard := some (9, true) }) (v := undef) rfl (by kernel_rfl) (by kernel_rfl) (by kernel_rfl) (fun _ _ _ h => h) (Or.inr ⟨by rfl, rfl⟩) (by assumption) ?_
    try simp only [Act.put, List.setIfInBounds_toArray, List.set_cons_zero, List.set_cons_succ]
    refine wpAnyH_take (i := 15) (oi := { dst := some 20, op := Op.nilCheck (Operand.tmp 19), type := 0, pos := "queue.go:15", after := #[{ on := 14, ground := Ground.data }, { on := 9, ground := Ground.guard }], guard := some (9, true) }) (v := undef) rfl (by kernel_rfl) (by kernel_rfl) (by kernel_rfl) (fun _ _ _ h => h) (Or.inr ⟨by rfl, rfl⟩) (by assumption) ?_
    try simp only [Act.put, List.setIfInBounds_toArray, List.set_cons_zero, List.set_cons_succ]
    refine wpAnyH_take (i := 16) (oi := { dst := some 21, op := Op.fieldAddr 75 (Operand.tmp 20) 0, type := 0, pos := "queue.go:15", after := #[{ on := 15, ground := Ground.data }, { on := 9, ground := Ground.guard }], guard := some (9, true) }) (v := undef) rfl (by kernel_rfl) (by kernel_rfl) (by kernel_rfl) (fun _ _ _ h => h) (Or.inr ⟨by rfl, rfl⟩) (by assumption) ?_
    try simp only [Act.put, List.setIfInBounds_toArray, List.set_cons_zero, List.set_cons_succ]
    refine wpAnyH_take (i := 17) (oi := { dst := some 22, op := Op.load 40 (Operand.tmp 21), type := 40, pos := "queue.go:15", after := #[{ on := 16, ground := Ground.data }, { on := 9, ground := Ground.guard }], guard := some (9, true) }) (v := undef) rfl (by kernel_rfl) (by kernel_rfl) (by kernel_rfl) (fun _ _ _ h => h) (Or.inr ⟨by rfl, rfl⟩) (by assumption) ?_
    try simp only [Act.put, List.setIfInBounds_toArray, List.set_cons_zero, List.set_cons_succ]
    refine wpAnyH_take (i := 18) (oi := { dst := some 23, op := Op.call { callee := Callee.value (Operand.func 65), args := #[Operand.tmp 18, Operand.tmp 22], argTypes := #[40, 40] }, type := 4, pos := "queue.go:15", after := #[{ on := 13, ground := Ground.data }, { on := 17, ground := Ground.data }, { on := 9, ground := Ground.chain }, { on := 9, ground := Ground.guard }], guard := some (9, true) }) (v := undef) rfl (by kernel_rfl) (by kernel_rfl) (by kernel_rfl) (fun _ _ _ h => h) (Or.inr ⟨by rfl, rfl⟩) (by assumption) ?_
    try simp only [Act.put, List.setIfInBounds_toArray, List.set_cons_zero, List.set_cons_succ]
    refine wpAnyH_take (i := 19) (oi := { dst := some 24, op := Op.unOp UnOp.not 4 (Operand.tmp 23), type := 4, pos := "queue.go:15", after := #[{ on := 18, ground := Ground.data }, { on := 9, ground := Ground.guard }], guard := some (9, true) }) (v := undef) rfl (by kernel_rfl) (by kernel_rfl) (by kernel_rfl) (fun _ _ _ h => h) (Or.inr ⟨by rfl, rfl⟩) (by assumption) ?_
    try simp only [Act.put, List.setIfInBounds_toArray, List.set_cons_zero, List.set_cons_succ]
    refine wpAnyH_take (i := 20) (oi := { dst := some 25, op := Op.pick (Operand.tmp 14) (Operand.tmp 24) (Operand.const (Value.bool false)), type := 4, pos := "queue.go:15", after := #[{ on := 9, ground := Ground.data }, { on := 19, ground := Ground.data }], guard := none }) (v := ?_) rfl (by kernel_rfl) (by kernel_rfl) (by kernel_rfl) (fun _ _ _ h => h) (Or.inl ⟨by rfl, ?_⟩) (by assumption) ?_
    rotate_left 1
    · (intro w' hSw; (try dsimp only at hSw); go_simp; try (with_reducible rfl))
    try simp only [Act.put, List.setIfInBounds_toArray, List.set_cons_zero, List.set_cons_succ]
    refine wpAnyH_take (i := 21) (oi := { dst := some 4, op := Op.assign (Operand.tmp 25), type := 4, pos := "queue.go:15", after := #[{ on := 20, ground := Ground.data }, { on := 18, ground := Ground.chain }, { on := 0, ground := Ground.phase }, { on := 1, ground := Ground.phase }, { on := 2, ground := Ground.phase }, { on := 3, ground := Ground.phase }, { on := 4, ground := Ground.phase }, { on := 5, ground := Ground.phase }, { on := 6, ground := Ground.phase }, { on := 7, ground := Ground.phase }, { on := 8, ground := Ground.phase }, { on := 9, ground := Ground.phase }, { on := 10, ground := Ground.phase }, { on := 11, ground := Ground.phase }, { on := 12, ground := Ground.phase }, { on := 13, ground := Ground.phase }, { on := 14, ground := Ground.phase }, { on := 15, ground := Ground.phase }, { on := 16, ground := Ground.phase }, { on := 17, ground := Ground.phase }, { on := 18, ground := Ground.phase }, { on := 19, ground := Ground.phase }, { on := 20, ground := Ground.phase }], guard := none }) (v := ?_) rfl (by kernel_rfl) (by kernel_rfl) (by kernel_rfl) (fun _ _ _ h => h) (Or.inl ⟨by rfl, ?_⟩) (by assumption) ?_
    rotate_left 1
    · (intro w' hSw; (try dsimp only at hSw); go_simp; try (with_reducible rfl))
    try simp only [Act.put, List.setIfInBounds_toArray, List.set_cons_zero, List.set_cons_succ]
    refine wpAnyH_done (by kernel_rfl) ?_ _
    have HB9 := Lib.hid hHeld.1
    clear hHeld
    go_wp2
    go_ret
    exact ⟨rfl, HB9.out⟩
  · have hr : r = (xw || yw) := by rw [HC.out]; simp [e]
    subst hr
    have e2 : decide (yo = xo) = false := by rw [decide_eq_false_iff_not]; exact e
    have e5 : (yo == xo) = false := by rw [beq_eq_false_iff_ne]; exact e
    have e4 : (yo != xo) = true := by rw [bne_iff_ne]; exact e
    have HW := Lib.hid hw
    have HO := Lib.hid ho
    have KT := Lib.hid (fun W => together_any xk yk xw yw W)
    clear hw ho HC
    go_enter Try.func56, Try.ntmps56
    go_upto_region 1 with fail
    go_region_held3 (fun w' => Below W.heap.size W w' ∧ w'.cell? ⟨w, 0, none⟩ = some (.string xk) ∧ w'.cell? ⟨w, 1, none⟩ = some (.bool xw) ∧ w'.cell? ⟨w, 2, none⟩ = some (.int .i64 xo) ∧ w'.cell? ⟨o, 0, none⟩ = some (.string yk) ∧ w'.cell? ⟨o, 1, none⟩ = some (.bool yw) ∧ w'.cell? ⟨o, 2, none⟩ = some (.int .i64 yo))
      ((first | exact ⟨HB.out, HW.out.c0, HW.out.c1, HW.out.c2, HO.out.c0, HO.out.c1, HO.out.c2⟩ | assumption | exact ⟨hb9, keep_cell hb8 hb7.2.1, keep_cell hb8 hb7.2.2.1, keep_cell hb8 hb7.2.2.2.1, keep_cell hb8 hb7.2.2.2.2.1, keep_cell hb8 hb7.2.2.2.2.2.1, keep_cell hb8 hb7.2.2.2.2.2.2⟩))
      ((go_at_call 65; refine (KT.out _).mono ?_; rintro z w9 ⟨rfl, hb8⟩; have hb7 := ‹Below W.heap.size W _ ∧ _›; have hb9 := hb7.1.trans (hb8.mono hb7.1.size)))
    all_goals
      have HB9 := Lib.hid ‹Below W.heap.size W _ ∧ _›.1
      go_wp2
      go_ret
      exact ⟨by simp, HB9.out⟩
end
end Go.Proofs.Ytjojempjmpaaaaa

namespace Go.Proofs.Ytjojempjmpaaaaa
open Go.RowKit
theorem new_cell {W : World} {cs : Array Value} {T : TypeId} {g i : Nat} {v : Value} (hg : g = W.heap.size) (hv : cs[i]? = some v) : (W.alloc (.cells cs T)).cell? ⟨g, i, none⟩ = some v := by
  rw [World.cell?_alloc_at _ _ _ _ hg]; exact hv
/-- A slice that reads as these pointers. -/
def PRow (W : World) (a : Option Addr) (xs : List Nat) : Prop := xs = [] ∨ ∃ b off, a = some ⟨b, off, none⟩ ∧ ∀ i, i < xs.length → W.cell? ⟨b, off + i, none⟩ = some (.pointer (some ⟨xs.getD i 0, 0, none⟩))
theorem PRow.below {W X : World} {a : Option Addr} {xs : List Nat} (h : PRow W a xs) (hb : Below W.heap.size W X) : PRow X a xs := by
  rcases h with h | ⟨b, off, e, h⟩
  · exact .inl h
  · exact .inr ⟨b, off, e, fun i hi => keep_cell hb (h i hi)⟩
/-- The first one and the last one. -/
def endsL (q : List Nat) : List Nat := match q.head?, q.getLast? with
  | some f, some l => [f, l]
  | _, _ => []
theorem endsL_mem {q : List Nat} {x : Nat} (h : x ∈ endsL q) : x ∈ q := by
  unfold endsL at h
  split at h
  · rename_i f l h1 h2
    rcases List.mem_cons.1 h with e | e
    · rw [e]; exact List.mem_of_head? h1
    · rw [List.mem_singleton.1 e]; exact List.mem_of_getLast? h2
  · cases h
section
variable {W X : World} {K off w : Nat} {q r : List Nat} {x : Wc}
set_option maxRecDepth 100000 in
theorem ends_any (h : QAt W K off q) : Calls Try.prog 55 #[.pointer (some ⟨K, off, none⟩)] W fun e W' => ∃ a c, e = .returned (.slice a (endsL q).length c) ∧ PRow W' a (endsL q) ∧ Below W.heap.size W W' := by
  have hf := h.f
  have hl := h.l
  cases e1 : q.head? with
  | none =>
    have e : endsL q = [] := by unfold endsL; rw [e1]
    rw [e1] at hf
    simp only [pV] at hf
    rw [e]
    have HB : Hid (Below W.heap.size W W) := Below.refl _ _
    clear h hl e1 e
    go_enter Try.func55, Try.ntmps55
    go_wp2
    go_ret
    exact ⟨none, 0, rfl, .inl rfl, HB.out⟩
  | some f =>
    cases e2 : q.getLast? with
    | none =>
      rw [List.getLast?_eq_none_iff.1 e2] at e1
      cases e1
    | some l =>
      have e : endsL q = [f, l] := by unfold endsL; rw [e1, e2]
      rw [e1] at hf
      rw [e2] at hl
      simp only [pV] at hf hl
      rw [e]
      have HB : Hid (Below W.heap.size W (W.drew.alloc (.cells #[.pointer (some ⟨f, 0, none⟩), .pointer (some ⟨l, 0, none⟩)] 72))) := (Below.refl _ _).drew.alloc (Nat.le_refl _) _
      have HR : Hid (PRow (W.drew.alloc (.cells #[.pointer (some ⟨f, 0, none⟩), .pointer (some ⟨l, 0, none⟩)] 72)) (some ⟨W.heap.size, 0, none⟩) [f, l]) := .inr ⟨W.heap.size, 0, rfl, fun i hi => by
        match i, hi with
        | 0, _ => exact new_cell rfl rfl
        | 1, _ => exact new_cell rfl rfl⟩
      clear h e1 e2 e
      go_enter Try.func55, Try.ntmps55
      go_wp2_with fail
      go_still_tail 8, (by kernel_rfl)
      go_wp2
      go_ret
      exact ⟨_, _, rfl, HR.out, HB.out⟩
set_option maxRecDepth 100000 in
theorem first_any {o : List Nat} (hr : QAt W K 2 r) (ho : QAt W K 4 o) : Calls Try.prog 30 #[.pointer (some ⟨K, 0, none⟩)] W fun e W' => e = .returned (pV (r ++ o).head?) ∧ W = W' := by
  have h1 := hr.f
  have h2 := ho.f
  cases e1 : r.head? with
  | none =>
    have e : r = [] := by cases r with
      | nil => rfl
      | cons _ _ => cases e1
    subst e
    rw [List.nil_append]
    simp only [List.head?_nil, pV] at h1
    clear hr ho e1
    generalize pV o.head? = v at *
    go_enter Try.func30, Try.ntmps30
    go_wp2
    go_ret
    exact ⟨rfl, rfl⟩
  | some f =>
    have e : (r ++ o).head? = some f := by cases r with
      | nil => cases e1
      | cons _ _ => exact e1
    rw [e]
    rw [e1] at h1
    simp only [pV] at h1 ⊢
    clear hr ho h2 e1 e
    go_enter Try.func30, Try.ntmps30
    go_wp2
    go_ret
    exact ⟨rfl, rfl⟩
/-- The first place at which p holds; -1: there is none. -/
def idxL (p : Nat → Bool) : Nat → List Nat → Int
  | _, [] => -1
  | k, x :: l => if p x then (k : Int) else idxL p (k + 1) l
set_option maxRecDepth 100000 in
theorem index_any (cf : FuncId) (pre : Array Value) (p : Nat → Bool) (a : Option Addr) (xs : List Nat) (c : Nat) (W : World) (hl : xs.length ≤ 100000) (ha : PRow W a xs) (eg : ∀ args w, (callFunc cf args).run Try.prog w = .ok (.enter cf args) w)
    (hcall : ∀ W' x, Below W.heap.size W W' → x ∈ xs → Calls Try.prog cf (pre ++ #[.pointer (some ⟨x, 0, none⟩)]) W' fun e w' => e = .returned (.bool (p x)) ∧ Below W'.heap.size W' w') :
    Calls Try.prog 64 #[.slice a xs.length c, .func (.func cf) pre #[]] W fun e w' => e = .returned (.int .i64 (idxL p 0 xs)) ∧ Below W.heap.size W w' := by
  obtain ⟨O, hO⟩ : ∃ O, idxL p 0 xs = O := ⟨_, rfl⟩
  rw [hO]
  have HO : Hid (idxL p 0 (xs.drop 0) = O) := hO
  have HA := Lib.hid ha
  have HC := Lib.hid hcall
  have HB : Hid (Below W.heap.size W W) := Below.refl _ _
  clear hO ha hcall
  go_enter Try.func64, Try.ntmps64
  go_wp2
  go_loopw [8] (fun i wr => ∃ j : Nat, j ≤ xs.length ∧ i = .int .i64 j ∧ Hid (idxL p j (xs.drop j) = O) ∧ Hid (Below W.heap.size W wr)) (fun i _ => xs.length - (intOf i).toNat)
  case atStart => exact ⟨0, Nat.zero_le _, rfl, HO, HB⟩
  case round =>
    obtain ⟨j, hj, rfl, HE, HW⟩ := hrel
    rename World => wr
    clear HO HB
    by_cases hlt : j < xs.length
    · have hlt' : (j : Int) < (xs.length : Int) := by omega
      have hj0 : (0 : Int) ≤ (j : Int) := by omega
      rcases HA.out.below HW.out with hnil | ⟨b, off, rfl, hcs⟩
      · rw [hnil] at hlt; exact absurd hlt (Nat.not_lt_zero _)
      have hc := hcs j hlt
      obtain ⟨x, hx⟩ : ∃ x, x = xs.getD j 0 := ⟨_, rfl⟩
      have hmem : x ∈ xs := by rw [hx, List.getD_eq_getElem?_getD, List.getElem?_eq_getElem hlt]; exact List.getElem_mem hlt
      have hd : xs.drop j = x :: xs.drop (j + 1) := by rw [List.drop_eq_getElem_cons hlt, hx, List.getD_eq_getElem?_getD, List.getElem?_eq_getElem hlt]; rfl
      have hE := HE.out
      rw [hd] at hE
      rw [← hx] at hc
      have KC := Lib.hid (HC.out wr x HW.out hmem)
      clear hcs hd hx
      unfold idxL at hE
      cases hp : p x with
      | true =>
        rw [hp, if_pos rfl] at hE
        rw [hp] at KC
        subst hE
        clear HE
        go_wp2_with fail
        refine KC.out.mono ?_
        rintro e w2 ⟨rfl, hb⟩
        have HB2 := Lib.hid (HW.out.trans (hb.mono HW.out.size))
        clear hb
        go_wp2
        go_ret
        exact ⟨rfl, HB2.out⟩
      | false =>
        rw [hp, if_neg (by simp)] at hE
        rw [hp] at KC
        have HE2 := Lib.hid hE
        clear hE HE
        go_wp2_with fail
        refine KC.out.mono ?_
        rintro e w2 ⟨rfl, hb⟩
        have HB2 := Lib.hid (HW.out.trans (hb.mono HW.out.size))
        clear hb
        go_wp2
        go_roundw
        case rel => exact ⟨j + 1, by omega, by go_num, HE2, HB2⟩
        case measure => simp [intOf]; omega
    · obtain rfl : j = xs.length := by omega
      have hE := HE.out
      rw [List.drop_length] at hE
      unfold idxL at hE
      subst hE
      clear HE
      go_wp2
      go_ret
      exact ⟨rfl, HW.out⟩
theorem idxL_ge (p : Nat → Bool) : ∀ (k : Nat) (l : List Nat), decide (0 ≤ idxL p k l) = l.any p
  | _, [] => rfl
  | k, x :: l => by
    unfold idxL
    rw [List.any_cons]
    cases hp : p x with
    | true => rw [if_pos rfl, Bool.true_or]; exact decide_eq_true (Int.natCast_nonneg k)
    | false => rw [if_neg (by simp), Bool.false_or]; exact idxL_ge p (k + 1) l
set_option maxRecDepth 100000 in
theorem contains_any (cf : FuncId) (pre : Array Value) (p : Nat → Bool) (a : Option Addr) (xs : List Nat) (c : Nat) (W : World) (hl : xs.length ≤ 100000) (ha : PRow W a xs) (eg : ∀ args w, (callFunc cf args).run Try.prog w = .ok (.enter cf args) w)
    (hcall : ∀ W' x, Below W.heap.size W W' → x ∈ xs → Calls Try.prog cf (pre ++ #[.pointer (some ⟨x, 0, none⟩)]) W' fun e w' => e = .returned (.bool (p x)) ∧ Below W'.heap.size W' w') :
    Calls Try.prog 54 #[.slice a xs.length c, .func (.func cf) pre #[]] W fun e w' => e = .returned (.bool (xs.any p)) ∧ Below W.heap.size W w' := by
  have KI := Lib.hid (index_any cf pre p a xs c W hl ha eg hcall)
  have hg := idxL_ge p 0 xs
  generalize idxL p 0 xs = z at KI hg
  have HG := Lib.hid hg
  clear ha hcall hg
  go_enter Try.func54, Try.ntmps54
  go_wp2_with fail
  refine KI.out.mono ?_
  rintro e w1 ⟨rfl, hb⟩
  have HB := Lib.hid hb
  clear hb KI
  go_wp2
  go_ret
  exact ⟨by rw [← HG.out]; rfl, HB.out⟩
/-- Does a claim go together with all holders? -/
def freeB (con : Nat → Wc) (x : Wc) (q : List Nat) : Bool := !((endsL q).any fun z => clash x (con z))
set_option maxRecDepth 100000 in
theorem free_any (con : Nat → Wc) (h : QAt W K 0 q) (hw : WtAt W w x) (hc : ∀ z ∈ q, WtAt W z (con z)) : Calls Try.prog 31 #[.pointer (some ⟨K, 0, none⟩), .pointer (some ⟨w, 0, none⟩)] W fun e W' => e = .returned (.bool (freeB con x q)) ∧ Below W.heap.size W W' := by
  have KE := Lib.hid (ends_any h)
  have hlen : (endsL q).length ≤ 100000 := by
    unfold endsL
    split <;> simp
  have KC := Lib.hid (fun a c W1 (hb : Below W.heap.size W W1) (hr : PRow W1 a (endsL q)) => contains_any 56 #[.pointer (some ⟨w, 0, none⟩)] (fun z => clash x (con z)) a (endsL q) c W1 hlen hr (enters_of Try.func56 (by kernel_rfl) rfl) (fun W' z hb' hz => clashes_any ((hw.below hb).below hb') (((hc z (endsL_mem hz)).below hb).below hb')))
  have HF : Hid (freeB con x q = !((endsL q).any fun z => clash x (con z))) := rfl
  generalize freeB con x q = r at *
  clear h hw hc hlen
  go_enter Try.func31, Try.ntmps31
  go_wp2_with fail
  refine KE.out.mono ?_
  rintro e w1 ⟨a, c, rfl, hr, hb⟩
  have K2 := Lib.hid (KC.out a c w1 hb hr)
  have HB := Lib.hid hb
  clear hb hr KC KE
  go_wp2_with fail
  refine K2.out.mono ?_
  rintro e w2 ⟨rfl, hb2⟩
  have HB2 := Lib.hid (HB.out.trans (hb2.mono HB.out.size))
  clear hb2 K2
  go_wp2
  go_ret
  exact ⟨by rw [HF.out]; rfl, HB2.out⟩
end
end Go.Proofs.Ytjojempjmpaaaaa

namespace Go.Proofs.Ytjojempjmpaaaaa
open Go.RowKit
/-- What a table holds: locks by keys, queues by keys (0 holders, 1 readers that wait to write, 2 others), maps of what is held by owners, waiters by owners; what each claims. -/
structure Lk where
  lk : ByteArray → Option Nat
  q : Nat → ByteArray → List Nat
  hm : Int → Option Nat
  hd : Int → ByteArray → Option Nat
  wt : Int → Option Nat
  con : Nat → Wc
  pas : Nat → Option Obj
def Lk.none : Lk := ⟨fun _ => Option.none, fun _ _ => [], fun _ => Option.none, fun _ _ => Option.none, fun _ => Option.none, fun _ => ⟨ByteArray.empty, false, 0⟩, fun _ => Option.none⟩
/-- Blocks that are none of the table's, and stay as they are. -/
structure Ps (W : World) (T : Nat) (lk : ByteArray → Option Nat) (q : Nat → ByteArray → List Nat) (pas : Nat → Option Obj) : Prop where
  pa : ∀ b c, pas b = some c → W.heap[b]? = some c
  pc : ∀ b c, pas b = some c → ∃ i v, W.cell? ⟨b, i, none⟩ = some v
  pT : ∀ b c, pas b = some c → b ≠ T
  pk : ∀ b c k K, pas b = some c → lk k = some K → b ≠ K
  px : ∀ b c i k x, pas b = some c → i < 3 → x ∈ q i k → b ≠ x
theorem Ps.lt {W : World} {T : Nat} {lk : ByteArray → Option Nat} {q : Nat → ByteArray → List Nat} {pas : Nat → Option Obj} (h : Ps W T lk q pas) {b : Nat} {c : Obj} (e : pas b = some c) : b < W.heap.size := by
  obtain ⟨i, v, hv⟩ := h.pc b c e
  exact block_lt (p := ⟨b, i, none⟩) hv
theorem Ps.of {W X : World} {T : Nat} {lk : ByteArray → Option Nat} {q : Nat → ByteArray → List Nat} {pas : Nat → Option Obj} (h : Ps W T lk q pas) (hb : ∀ b c, pas b = some c → X.heap[b]? = W.heap[b]?) : Ps X T lk q pas :=
  ⟨fun b c e => (hb b c e).trans (h.pa b c e), fun b c e => by
    obtain ⟨i, v, hv⟩ := h.pc b c e
    exact ⟨i, v, (World.cell?_of_block (a := ⟨b, i, none⟩) (hb b c e)).trans hv⟩, h.pT, h.pk, h.px⟩
theorem Ps.cf {W X : World} {T : Nat} {lk : ByteArray → Option Nat} {q : Nat → ByteArray → List Nat} {pas : Nat → Option Obj} {S : Nat → Nat → Prop} (h : Ps W T lk q pas) (hc : Cf W X S) (hS : ∀ b c, pas b = some c → ∀ i, ¬ S b i) : Ps X T lk q pas :=
  h.of (fun b c e => hc.block b (h.lt e) (hS b c e))
theorem Ps.setK {W : World} {T : Nat} {lk lk' : ByteArray → Option Nat} {q : Nat → ByteArray → List Nat} {pas : Nat → Option Obj} (h : Ps W T lk q pas) (hk : ∀ b c k K, pas b = some c → lk' k = some K → b ≠ K) : Ps W T lk' q pas := ⟨h.pa, h.pc, h.pT, hk, h.px⟩
theorem Ps.setQ {W : World} {T : Nat} {lk : ByteArray → Option Nat} {q q' : Nat → ByteArray → List Nat} {pas : Nat → Option Obj} (h : Ps W T lk q pas) (hx : ∀ b c i k x, pas b = some c → i < 3 → x ∈ q' i k → b ≠ x) : Ps W T lk q' pas := ⟨h.pa, h.pc, h.pT, h.pk, hx⟩
/-- A block without cells is none of them. -/
theorem Ps.grown {W X : World} {T M : Nat} {lk : ByteArray → Option Nat} {q : Nat → ByteArray → List Nat} {pas : Nat → Option Obj} (h : Ps W T lk q pas) (hM : ∀ i, W.cell? ⟨M, i, none⟩ = none) (hg : W.grownBy X (some M)) : Ps X T lk q pas :=
  h.of (fun b c e => hg.block b (h.lt e) (fun e2 => by
    injection e2 with e2
    obtain ⟨_, v, hv⟩ := h.pc b c e
    rw [e2, hM] at hv; cases hv))
/-- A table in memory, all of whose blocks lie at B or above. -/
structure LkAt (B : Nat) (W : World) (T ml mh mw n : Nat) (s : Lk) : Prop where
  t0 : W.cell? ⟨T, 0, none⟩ = some (.map (some ml))
  t1 : W.cell? ⟨T, 1, none⟩ = some (.map (some mh))
  t2 : W.cell? ⟨T, 2, none⟩ = some (.map (some mw))
  m0 : MAt sKy pV W ml n s.lk
  m1 : MAt iKy mV W mh n s.hm
  m2 : MAt iKy pV W mw n s.wt
  md : ∀ o m, s.hm o = some m → MAt sKy pV W m n (s.hd o)
  qa : ∀ k K, s.lk k = some K → ∀ i, i < 3 → QAt W K (2 * i) (s.q i k)
  qn : ∀ k, s.lk k = none → ∀ i, s.q i k = []
  hn : ∀ o, s.hm o = none → ∀ k, s.hd o k = none
  wc : ∀ i k x, i < 3 → x ∈ s.q i k → WtAt W x (s.con x)
  li : ∀ k k' K, s.lk k = some K → s.lk k' = some K → k = k'
  hi : ∀ o o' m, s.hm o = some m → s.hm o' = some m → o = o'
  qd : ∀ i j k k' x, i < 3 → j < 3 → x ∈ s.q i k → x ∈ s.q j k' → i = j ∧ k = k'
  mn : ml ≠ mh ∧ ml ≠ mw ∧ mh ≠ mw
  hne : ∀ o m, s.hm o = some m → m ≠ ml ∧ m ≠ mh ∧ m ≠ mw
  bt : B ≤ T ∧ B ≤ ml ∧ B ≤ mh ∧ B ≤ mw
  bk : ∀ k K, s.lk k = some K → B ≤ K
  bm : ∀ o m, s.hm o = some m → B ≤ m
  bw : ∀ i k x, i < 3 → x ∈ s.q i k → B ≤ x
  ps : Ps W T s.lk s.q s.pas
section
variable {B : Nat} {W X : World} {T ml mh mw n : Nat} {s : Lk} {S : Nat → Nat → Prop}
theorem LkAt.lk_some (h : LkAt B W T ml mh mw n s) {i : Nat} {k : ByteArray} {x : Nat} (hx : x ∈ s.q i k) : ∃ K, s.lk k = some K := by
  cases e : s.lk k with
  | none => rw [h.qn k e i] at hx; cases hx
  | some K => exact ⟨K, rfl⟩
/-- What is not written stays. -/
theorem LkAt.keep (h : LkAt B W T ml mh mw n s) (hc : Cf W X S) (hT : ∀ i, ¬ S T i) (hM : ∀ m, (m = ml ∨ m = mh ∨ m = mw ∨ ∃ o, s.hm o = some m) → ∀ i, ¬ S m i) (hK : ∀ k K, s.lk k = some K → ∀ i, ¬ S K i) (hw : ∀ i k x, i < 3 → x ∈ s.q i k → ∀ j, ¬ S x j) (hP : ∀ b c, s.pas b = some c → ∀ i, ¬ S b i) : LkAt B X T ml mh mw n s where
  t0 := hc.cell _ _ _ (hT 0) h.t0
  t1 := hc.cell _ _ _ (hT 1) h.t1
  t2 := hc.cell _ _ _ (hT 2) h.t2
  m0 := h.m0.of_block (hc.block ml h.m0.lt (hM ml (.inl rfl)))
  m1 := h.m1.of_block (hc.block mh h.m1.lt (hM mh (.inr (.inl rfl))))
  m2 := h.m2.of_block (hc.block mw h.m2.lt (hM mw (.inr (.inr (.inl rfl)))))
  md := fun o m e => (h.md o m e).of_block (hc.block m (h.md o m e).lt (hM m (.inr (.inr (.inr ⟨o, e⟩)))))
  qa := fun k K e i hi => (h.qa k K e i hi).keep hc ⟨hK k K e _, hK k K e _⟩ (fun x hx => ⟨hw i k x hi hx 3, hw i k x hi hx 4⟩)
  qn := h.qn
  hn := h.hn
  wc := fun i k x hi hx => (h.wc i k x hi hx).keep hc (fun j _ => hw i k x hi hx j)
  li := h.li
  hi := h.hi
  qd := h.qd
  mn := h.mn
  hne := h.hne
  bt := h.bt
  bk := h.bk
  bm := h.bm
  bw := h.bw
  ps := h.ps.cf hc hP
theorem LkAt.below (h : LkAt B W T ml mh mw n s) (hb : Below W.heap.size W X) : LkAt B X T ml mh mw n s :=
  h.keep (S := fun _ _ => False) (Cf.below hb) (fun _ => id) (fun _ _ _ => id) (fun _ _ _ _ => id) (fun _ _ _ _ _ _ => id) (fun _ _ _ _ => id)
/-- Blocks are told apart by what they hold. -/
theorem LkAt.kx (h : LkAt B W T ml mh mw n s) {k : ByteArray} {K x : Nat} {c : Wc} (hk : s.lk k = some K) (hx : WtAt W x c) : K ≠ x := fun e => by
  have h1 := (h.qa k K hk 0 (by decide)).f
  rw [e, Nat.mul_zero, hx.c0] at h1
  generalize (s.q 0 k).head? = z at h1
  cases z <;> simp [pV] at h1
theorem LkAt.kT (h : LkAt B W T ml mh mw n s) {k : ByteArray} {K : Nat} (hk : s.lk k = some K) : K ≠ T := fun e => by
  have h1 := (h.qa k K hk 0 (by decide)).f
  rw [e, Nat.mul_zero, h.t0] at h1
  generalize (s.q 0 k).head? = z at h1
  cases z <;> simp [pV] at h1
theorem LkAt.xT (h : LkAt B W T ml mh mw n s) {x : Nat} {c : Wc} (hx : WtAt W x c) : x ≠ T := fun e => by
  have h1 := hx.c0
  rw [e, h.t0] at h1
  cases h1
end
end Go.Proofs.Ytjojempjmpaaaaa

namespace Go.Proofs.Ytjojempjmpaaaaa
open Go.RowKit
theorem clone_str (s : ByteArray) (W : World) (hs : s.size ≤ 281474976710656) : Calls Try.prog 53 #[.string s] W fun x w' => x = .returned (.string s) ∧ Below W.heap.size W w' := by
  have KC := Lib.hid (Try.stringslite_Clone s W hs)
  go_enter Try.func53, Try.ntmps53
  go_wp2_with fail
  refine KC.out.mono ?_
  rintro x w1 ⟨rfl, hb⟩
  go_wp2
  go_ret
  exact ⟨rfl, hb⟩
set_option maxRecDepth 100000 in
theorem new_table (W : World) : Calls Try.prog 9 #[] W fun e W' => ∃ T ml mh mw, e = .returned (.pointer (some ⟨T, 0, none⟩)) ∧ LkAt W.heap.size W' T ml mh mw 0 Lk.none ∧ Below W.heap.size W W' := by
  have hmm := @run_makeMap Try.prog
  have b1 := (Below.refl W.heap.size W).alloc (Nat.le_refl _) (.map #[] 0)
  have b2 := b1.alloc b1.size (.map #[] 0)
  have b3 := b2.alloc b2.size (.map #[] 0)
  have b4 := b3.alloc b3.size (.cells #[.map (some W.heap.size), .map (some (W.heap.size + 1)), .map (some (W.heap.size + 1 + 1))] 60)
  have HB := Lib.hid b4
  have c1 : Below (W.alloc (.map #[] 0)).heap.size (W.alloc (.map #[] 0)) ((W.alloc (.map #[] 0)).alloc (.map #[] 0)) := (Below.refl _ _).alloc (Nat.le_refl _) _
  have c2 : Below ((W.alloc (.map #[] 0)).alloc (.map #[] 0)).heap.size ((W.alloc (.map #[] 0)).alloc (.map #[] 0)) (((W.alloc (.map #[] 0)).alloc (.map #[] 0)).alloc (.map #[] 0)) := (Below.refl _ _).alloc (Nat.le_refl _) _
  have c3 : Below (((W.alloc (.map #[] 0)).alloc (.map #[] 0)).alloc (.map #[] 0)).heap.size (((W.alloc (.map #[] 0)).alloc (.map #[] 0)).alloc (.map #[] 0)) ((((W.alloc (.map #[] 0)).alloc (.map #[] 0)).alloc (.map #[] 0)).alloc (.cells #[.map (some W.heap.size), .map (some (W.heap.size + 1)), .map (some (W.heap.size + 1 + 1))] 60)) := (Below.refl _ _).alloc (Nat.le_refl _) _
  have m1 : MAt sKy pV (W.alloc (.map #[] 0)) W.heap.size 0 (fun _ => none) := MAt.made W
  have m2 : MAt iKy mV ((W.alloc (.map #[] 0)).alloc (.map #[] 0)) (W.alloc (.map #[] 0)).heap.size 0 (fun _ => none) := MAt.made _
  have m3 : MAt iKy pV (((W.alloc (.map #[] 0)).alloc (.map #[] 0)).alloc (.map #[] 0)) ((W.alloc (.map #[] 0)).alloc (.map #[] 0)).heap.size 0 (fun _ => none) := MAt.made _
  have k1 := ((m1.of_block (c1.block _ m1.lt)).of_block (c2.block _ (m1.of_block (c1.block _ m1.lt)).lt)).of_block (c3.block _ ((m1.of_block (c1.block _ m1.lt)).of_block (c2.block _ (m1.of_block (c1.block _ m1.lt)).lt)).lt)
  have k2 := (m2.of_block (c2.block _ m2.lt)).of_block (c3.block _ (m2.of_block (c2.block _ m2.lt)).lt)
  have k3 := m3.of_block (c3.block _ m3.lt)
  simp only [World.size_alloc] at k2 k3
  have HT : Hid (LkAt W.heap.size ((((W.alloc (.map #[] 0)).alloc (.map #[] 0)).alloc (.map #[] 0)).alloc (.cells #[.map (some W.heap.size), .map (some (W.heap.size + 1)), .map (some (W.heap.size + 1 + 1))] 60)) (W.heap.size + 1 + 1 + 1) W.heap.size (W.heap.size + 1) (W.heap.size + 1 + 1) 0 Lk.none) := {
    t0 := new_cell (by simp only [World.size_alloc]) rfl
    t1 := new_cell (by simp only [World.size_alloc]) rfl
    t2 := new_cell (by simp only [World.size_alloc]) rfl
    m0 := k1
    m1 := k2
    m2 := k3
    md := fun _ _ e => by cases e
    qa := fun _ _ e => by cases e
    qn := fun _ _ _ => rfl
    hn := fun _ _ _ => rfl
    wc := fun _ _ _ _ hx => by cases hx
    li := fun _ _ _ e => by cases e
    hi := fun _ _ _ e => by cases e
    qd := fun _ _ _ _ _ _ _ hx => by cases hx
    mn := by omega
    hne := fun _ _ e => by cases e
    bt := by omega
    bk := fun _ _ e => by cases e
    bm := fun _ _ e => by cases e
    bw := fun _ _ _ _ hx => by cases hx
    ps := ⟨fun _ _ e => (by cases e), fun _ _ e => (by cases e), fun _ _ e => (by cases e), fun _ _ _ _ e => (by cases e), fun _ _ _ _ _ e => (by cases e)⟩ }
  clear b1 b2 b3 b4 c1 c2 c3 m1 m2 m3 k1 k2 k3
  go_enter Try.func9, Try.ntmps9
  go_wp2
  go_ret
  exact ⟨_, _, _, _, rfl, HT.out, HB.out⟩
section
variable {B : Nat} {W X : World} {T ml mh mw n : Nat} {s : Lk}
set_option maxRecDepth 100000 in
theorem made_any (h : LkAt B W T ml mh mw n s) : Calls Try.prog 27 #[.pointer (some ⟨T, 0, none⟩)] W fun e W' => e = .returned (.bool true) ∧ W = W' := by
  have t0 := h.t0
  have qT : ∀ (w : World) (r : Option Nat), (binOp .neq 56 (.map r) (.map none)).run Try.prog w = .ok (.bool (!r.isNone)) w := fun w r => run_neq_map_nil w _ _ _ r Try.underlying56
  clear h
  go_enter Try.func27, Try.ntmps27
  go_wp2
  go_ret
  exact ⟨rfl, rfl⟩
theorem made_nil (W : World) : Calls Try.prog 27 #[.pointer none] W fun e W' => e = .returned (.bool false) ∧ W = W' := by
  go_enter Try.func27, Try.ntmps27
  go_wp2
  go_ret
  exact ⟨rfl, rfl⟩
set_option maxRecDepth 100000 in
theorem kept_any (k : ByteArray) (b : Bool) (W : World) (hk : k.size ≤ 281474976710656) : Calls Try.prog 29 #[.agg #[.string k, .bool b]] W fun e W' => e = .returned (.agg #[.string k, .bool b]) ∧ Below W.heap.size W W' := by
  have KC := Lib.hid (fun W => clone_str k W hk)
  have b1 := (Below.refl W.heap.size W).alloc (Nat.le_refl _) (.cells #[.string k, .bool b] 40)
  have b2 := b1.alloc b1.size (.cells #[.string ⟨#[]⟩, .bool false] 40)
  have HB := Lib.hid b2
  have c1 : Below (W.alloc (.cells #[.string k, .bool b] 40)).heap.size (W.alloc (.cells #[.string k, .bool b] 40)) ((W.alloc (.cells #[.string k, .bool b] 40)).alloc (.cells #[.string ⟨#[]⟩, .bool false] 40)) := (Below.refl _ _).alloc (Nat.le_refl _) _
  have y0 : ((W.alloc (.cells #[.string k, .bool b] 40)).alloc (.cells #[.string ⟨#[]⟩, .bool false] 40)).cell? ⟨W.heap.size, 0, none⟩ = some (.string k) := keep_cell c1 (new_cell rfl rfl)
  have y1 : ((W.alloc (.cells #[.string k, .bool b] 40)).alloc (.cells #[.string ⟨#[]⟩, .bool false] 40)).cell? ⟨W.heap.size, 1, none⟩ = some (.bool b) := keep_cell c1 (new_cell rfl rfl)
  have z0 : ((W.alloc (.cells #[.string k, .bool b] 40)).alloc (.cells #[.string ⟨#[]⟩, .bool false] 40)).cell? ⟨W.heap.size + 1, 0, none⟩ = some (.string ⟨#[]⟩) := new_cell (by simp only [World.size_alloc]) rfl
  have z1 : ((W.alloc (.cells #[.string k, .bool b] 40)).alloc (.cells #[.string ⟨#[]⟩, .bool false] 40)).cell? ⟨W.heap.size + 1, 1, none⟩ = some (.bool false) := new_cell (by simp only [World.size_alloc]) rfl
  have yf : ∀ i, ((W.alloc (.cells #[.string k, .bool b] 40)).alloc (.cells #[.string ⟨#[]⟩, .bool false] 40)).frozen? ⟨W.heap.size, i, none⟩ = false := fun i => (c1.frozen (p := ⟨W.heap.size, i, none⟩) (by simp only [World.size_alloc]; omega)).trans (World.frozen?_alloc_at _ _ _ _ rfl)
  have zf : ∀ i, ((W.alloc (.cells #[.string k, .bool b] 40)).alloc (.cells #[.string ⟨#[]⟩, .bool false] 40)).frozen? ⟨W.heap.size + 1, i, none⟩ = false := fun i => World.frozen?_alloc_at _ _ _ _ (by simp only [World.size_alloc])
  clear b1 b2 c1
  go_enter Try.func29, Try.ntmps29
  go_upto_region 1 with fail
  generalize (W.alloc (.cells #[.string k, .bool b] 40)).alloc (.cells #[.string ⟨#[]⟩, .bool false] 40) = Y at *
  go_wp2_with fail
  refine (KC.out _).mono ?_
  rintro e w1 ⟨rfl, hb⟩
  have yl := block_lt (p := ⟨W.heap.size, 0, none⟩) y0
  have zl := block_lt (p := ⟨W.heap.size + 1, 0, none⟩) z0
  replace y0 := keep_cell hb y0
  replace y1 := keep_cell hb y1
  replace z0 := keep_cell hb z0
  replace z1 := keep_cell hb z1
  replace yf := fun i => (hb.frozen (p := ⟨W.heap.size, i, none⟩) yl).trans (yf i)
  replace zf := fun i => (hb.frozen (p := ⟨W.heap.size + 1, i, none⟩) zl).trans (zf i)
  have HB1 := Lib.hid (HB.out.trans (hb.mono HB.out.size))
  have HB2 := Lib.hid (((HB1.out.setCell (p := ⟨W.heap.size, 0, none⟩) (Nat.le_refl _) (.string k)).setCell (p := ⟨W.heap.size + 1, 0, none⟩) (Nat.le_succ _) (.string k)).setCell (p := ⟨W.heap.size + 1, 1, none⟩) (Nat.le_succ _) (.bool b))
  have x0 := sc_ne (g := W.heap.size + 1) (i := 1) (u := .bool b) (sc_eq (u := .string k) (sc_ne (g := W.heap.size) (i := 0) (u := .string k) z0 (.inl (by omega)))) (.inr (by decide))
  have x1 := sc_eq (u := .bool b) (sc_ne (g := W.heap.size + 1) (i := 0) (u := .string k) (sc_ne (g := W.heap.size) (i := 0) (u := .string k) z1 (.inl (by omega))) (.inr (by decide)))
  clear HB hb KC yl zl
  go_wp2
  generalize ((w1.setCell ⟨W.heap.size, 0, none⟩ (.string k)).setCell ⟨W.heap.size + 1, 0, none⟩ (.string k)).setCell ⟨W.heap.size + 1, 1, none⟩ (.bool b) = Z at *
  refine bodyPost_ret (v := .agg #[.string k, .bool b]) ?_ rfl ⟨rfl, HB2.out⟩
  simp [results, Try.results29, go_sem, x0, x1]
end
end Go.Proofs.Ytjojempjmpaaaaa
