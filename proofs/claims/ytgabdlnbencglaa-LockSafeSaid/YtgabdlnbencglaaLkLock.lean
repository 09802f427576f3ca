/-
  A KEY's LOCK: who clashes, the first one, the ends, whether a claim is free.
-/
import Derived.Test.YtgabdlnbencglaaLkDrop
namespace Go.Proofs.Ytgabdlnbencglaa
open Go.RowKit
/-- What a waiter claims. -/
structure Wc where
  k : ByteArray
  wr : Bool
  ow : Int
structure WtAt (W : World) (w : Nat) (x : Wc) : Prop where
  c0 : W.cell? ⟨w, 0, none⟩ = some (.string x.k)
  c1 : W.cell? ⟨w, 1, none⟩ = some (.bool x.wr)
  c2 : W.cell? ⟨w, 2, none⟩ = some (.int .i64 x.ow)
/-- Another owner's claim that doesn't go together with this one's. -/
def clash (x y : Wc) : Bool := (!(decide (y.ow = x.ow))) && (x.wr || y.wr)
section
variable {W X : World} {w o K : Nat} {x y : Wc} {S : Nat → Nat → Prop}
theorem WtAt.keep (h : WtAt W w x) (hc : Cf W X S) (hn : ∀ i, i < 3 → ¬ S w i) : WtAt X w x := ⟨hc.cell _ _ _ (hn 0 (by decide)) h.c0, hc.cell _ _ _ (hn 1 (by decide)) h.c1, hc.cell _ _ _ (hn 2 (by decide)) h.c2⟩
theorem WtAt.below (h : WtAt W w x) (hb : Below W.heap.size W X) : WtAt X w x := ⟨keep_cell hb h.c0, keep_cell hb h.c1, keep_cell hb h.c2⟩
theorem WtAt.lt (h : WtAt W w x) : w < W.heap.size := block_lt (p := ⟨w, 0, none⟩) h.c0
theorem together_any (k1 k2 : ByteArray) (a b : Bool) (W : World) : Calls Try.prog 65 #[.agg #[.string k1, .bool a], .agg #[.string k2, .bool b]] W fun e W' => e = .returned (.bool (!(a || b))) ∧ Below W.heap.size W W' := by
  have hb : Below W.heap.size W ((W.alloc (.cells #[.string k1, .bool a] 40)).alloc (.cells #[.string k2, .bool b] 40)) := ((Below.refl _ _).alloc (Nat.le_refl _) _).alloc (by simp only [World.size_alloc]; omega) _
  have HB := Lib.hid hb
  clear hb
  cases a <;> cases b
  all_goals
    go_enter Try.func65, Try.ntmps65
    go_wp2
    go_ret
    exact ⟨rfl, HB.out⟩
/-- Where the rest of a region only reads: in the text's order. -/
theorem wpAny_rest {P : Program} {l : List Oper} {fuel : Nat} {listed : Array Bool} {a : Act} {w : World} {Q : Exit → Act → World → Prop} (k : Nat) (hf : fuel = (l.drop k).length)
    (hB : (Region.noSelect l.toArray && Region.lexFrom .any l.toArray (l.drop k).length k listed) = true) (h : wpStill P l.toArray w (fun a' => Q .normal a' w) (l.drop k) a) : wpAny P .any l.toArray Q fuel listed a w := by
  rw [Bool.and_eq_true] at hB
  subst hf
  exact wpAny_of_still (Q := fun a' => Q .normal a' w) (fun _ h => h) _ _ _ (wpAnyS_lex hB.1 _ k listed a (fun j => by simp) hB.2 h)
theorem WtAt.drew (h : WtAt W w x) : WtAt W.drew w x := ⟨h.c0, h.c1, h.c2⟩
set_option maxRecDepth 100000 in
set_option maxHeartbeats 1000000 in
theorem clashes_any (hw : WtAt W w x) (ho : WtAt W o y) : Calls Try.prog 56 #[.pointer (some ⟨w, 0, none⟩), .pointer (some ⟨o, 0, none⟩)] W fun e W' => e = .returned (.bool (clash x y)) ∧ Below W.heap.size W W' := by
  have HC : Hid (clash x y = ((!(decide (y.ow = x.ow))) && (x.wr || y.wr))) := rfl
  obtain ⟨xk, xw, xo⟩ := x
  obtain ⟨yk, yw, yo⟩ := y
  generalize clash ⟨xk, xw, xo⟩ ⟨yk, yw, yo⟩ = r at *
  have HB : Hid (Below W.heap.size W W.drew) := (Below.refl _ _).drew
  by_cases e : yo = xo
  · have hr : r = false := by rw [HC.out]; simp [e]
    subst hr
    subst e
    obtain ⟨a0, a1, a2⟩ := hw.drew
    obtain ⟨b0, b1, b2⟩ := ho.drew
    dsimp only at a0 a1 a2 b0 b1 b2
    clear hw ho HC
    go_enter Try.func56, Try.ntmps56
    go_upto_region 1 with fail
    refine wp_region_held_drew (S := fun w' => Below W.heap.size W w' ∧ w'.cell? ⟨w, 2, none⟩ = some (.int .i64 yo) ∧ w'.cell? ⟨o, 2, none⟩ = some (.int .i64 yo)) (by kernel_rfl) ?_ (fun hHeld => ?_)
    · (try dsimp only); (first | exact ⟨HB.out, a2, b2⟩ | assumption)
    refine wpAnyH_take (i := 0) (oi := { dst := some 5, op := Op.move (Operand.tmp 1), type := 72, pos := "queue.go:15", after := #[], guard := none }) (v := ?_) rfl (by kernel_rfl) (by kernel_rfl) (by kernel_rfl) (fun _ _ _ h => h) (Or.inl ⟨by rfl, ?_⟩) (by assumption) ?_
    rotate_left 1
    · (intro w' hSw; (try dsimp only at hSw); go_simp; try (with_reducible rfl))
    try simp only [Act.put, List.setIfInBounds_toArray, List.set_cons_zero, List.set_cons_succ]
    refine wpAnyH_take (i := 1) (oi := { dst := some 6, op := Op.nilCheck (Operand.tmp 5), type := 0, pos := "queue.go:15", after := #[{ on := 0, ground := Ground.data }], guard := none }) (v := ?_) rfl (by kernel_rfl) (by kernel_rfl) (by kernel_rfl) (fun _ _ _ h => h) (Or.inl ⟨by rfl, ?_⟩) (by assumption) ?_
    rotate_left 1
    · (intro w' hSw; (try dsimp only at hSw); go_simp; try (with_reducible rfl))
    try simp only [Act.put, List.setIfInBounds_toArray, List.set_cons_zero, List.set_cons_succ]
    refine wpAnyH_take (i := 2) (oi := { dst := some 7, op := Op.fieldAddr 75 (Operand.tmp 6) 1, type := 0, pos := "queue.go:15", after := #[{ on := 1, ground := Ground.data }], guard := none }) (v := ?_) rfl (by kernel_rfl) (by kernel_rfl) (by kernel_rfl) (fun _ _ _ h => h) (Or.inl ⟨by rfl, ?_⟩) (by assumption) ?_
    rotate_left 1
    · (intro w' hSw; (try dsimp only at hSw); go_simp; try (with_reducible rfl))
    try simp only [Act.put, List.setIfInBounds_toArray, List.set_cons_zero, List.set_cons_succ]
    refine wpAnyH_take (i := 3) (oi := { dst := some 8, op := Op.load 3 (Operand.tmp 7), type := 3, pos := "queue.go:15", after := #[{ on := 2, ground := Ground.data }], guard := none }) (v := ?_) rfl (by kernel_rfl) (by kernel_rfl) (by kernel_rfl) (fun _ _ _ h => h) (Or.inl ⟨by rfl, ?_⟩) (by assumption) ?_
    rotate_left 1
    · (intro w' hSw; (try dsimp only at hSw); go_simp; try (with_reducible rfl))
    try simp only [Act.put, List.setIfInBounds_toArray, List.set_cons_zero, List.set_cons_succ]
    refine wpAnyH_take (i := 4) (oi := { dst := some 9, op := Op.move (Operand.tmp 0), type := 72, pos := "queue.go:15", after := #[], guard := none }) (v := ?_) rfl (by kernel_rfl) (by kernel_rfl) (by kernel_rfl) (fun _ _ _ h => h) (Or.inl ⟨by rfl, ?_⟩) (by assumption) ?_
    rotate_left 1
    · (intro w' hSw; (try dsimp only at hSw); go_simp; try (with_reducible rfl))
    try simp only [Act.put, List.setIfInBounds_toArray, List.set_cons_zero, List.set_cons_succ]
    refine wpAnyH_take (i := 5) (oi := { dst := some 10, op := Op.nilCheck (Operand.tmp 9), type := 0, pos := "queue.go:15", after := #[{ on := 4, ground := Ground.data }], guard := none }) (v := ?_) rfl (by kernel_rfl) (by kernel_rfl) (by kernel_rfl) (fun _ _ _ h => h) (Or.inl ⟨by rfl, ?_⟩) (by assumption) ?_
    rotate_left 1
    · (intro w' hSw; (try dsimp only at hSw); go_simp; try (with_reducible rfl))
    try simp only [Act.put, List.setIfInBounds_toArray, List.set_cons_zero, List.set_cons_succ]
    refine wpAnyH_take (i := 6) (oi := { dst := some 11, op := Op.fieldAddr 75 (Operand.tmp 10) 1, type := 0, pos := "queue.go:15", after := #[{ on := 5, ground := Ground.data }], guard := none }) (v := ?_) rfl (by kernel_rfl) (by kernel_rfl) (by kernel_rfl) (fun _ _ _ h => h) (Or.inl ⟨by rfl, ?_⟩) (by assumption) ?_
    rotate_left 1
    · (intro w' hSw; (try dsimp only at hSw); go_simp; try (with_reducible rfl))
    try simp only [Act.put, List.setIfInBounds_toArray, List.set_cons_zero, List.set_cons_succ]
    refine wpAnyH_take (i := 7) (oi := { dst := some 12, op := Op.load 3 (Operand.tmp 11), type := 3, pos := "queue.go:15", after := #[{ on := 6, ground := Ground.data }], guard := none }) (v := ?_) rfl (by kernel_rfl) (by kernel_rfl) (by kernel_rfl) (fun _ _ _ h => h) (Or.inl ⟨by rfl, ?_⟩) (by assumption) ?_
    rotate_left 1
    · (intro w' hSw; (try dsimp only at hSw); go_simp; try (with_reducible rfl))
    try simp only [Act.put, List.setIfInBounds_toArray, List.set_cons_zero, List.set_cons_succ]
    refine wpAnyH_take (i := 8) (oi := { dst := some 13, op := Op.binOp BinOp.neq 3 (Operand.tmp 8) (Operand.tmp 12) 3, type := 4, pos := "queue.go:15", after := #[{ on := 3, ground := Ground.data }, { on := 7, ground := Ground.data }], guard := none }) (v := ?_) rfl (by kernel_rfl) (by kernel_rfl) (by kernel_rfl) (fun _ _ _ h => h) (Or.inl ⟨by rfl, ?_⟩) (by assumption) ?_
    rotate_left 1
    · (intro w' hSw; (try dsimp only at hSw); go_simp; try (with_reducible rfl))
    try simp only [Act.put, List.setIfInBounds_toArray, List.set_cons_zero, List.set_cons_succ]
    refine wpAnyH_take (i := 9) (oi := { dst := some 14, op := Op.move (Operand.tmp 13), type := 4, pos := "queue.go:15", after := #[{ on := 8, ground := Ground.data }], guard := none }) (v := ?_) rfl (by kernel_rfl) (by kernel_rfl) (by kernel_rfl) (fun _ _ _ h => h) (Or.inl ⟨by rfl, ?_⟩) (by assumption) ?_
    rotate_left 1
    · (intro w' hSw; (try dsimp only at hSw); go_simp; try (with_reducible rfl))
    try simp only [Act.put, List.setIfInBounds_toArray, List.set_cons_zero, List.set_cons_succ]
    refine wpAnyH_take (i := 10) (oi := { dst := some 15, op := Op.move (Operand.tmp 0), type := 72, pos := "queue.go:15", after := #[{ on := 9, ground := Ground.guard }], guard := some (9, true) }) (v := undef) rfl (by kernel_rfl) (by kernel_rfl) (by kernel_rfl) (fun _ _ _ h => h) (Or.inr ⟨by rfl, rfl⟩) (by assumption) ?_
    try simp only [Act.put, List.setIfInBounds_toArray, List.set_cons_zero, List.set_cons_succ]
    refine wpAnyH_take (i := 11) (oi := { dst := some 16, op := Op.nilCheck (Operand.tmp 15), type := 0, pos := "queue.go:15", after := #[{ on := 10, ground := Ground.data }, { on := 9, ground := Ground.guard }], guard := some (9, true) }) (v := undef) rfl (by kernel_rfl) (by kernel_rfl) (by kernel_rfl) (fun _ _ _ h => h) (Or.inr ⟨by rfl, rfl⟩) (by assumption) ?_
    try simp only [Act.put, List.setIfInBounds_toArray, List.set_cons_zero, List.set_cons_succ]
    refine wpAnyH_take (i := 12) (oi := { dst := some 17, op := Op.fieldAddr 75 (Operand.tmp 16) 0, type := 0, pos := "queue.go:15", after := #[{ on := 11, ground := Ground.data }, { on := 9, ground := Ground.guard }], guard := some (9, true) }) (v := undef) rfl (by kernel_rfl) (by kernel_rfl) (by kernel_rfl) (fun _ _ _ h => h) (Or.inr ⟨by rfl, rfl⟩) (by assumption) ?_
    try simp only [Act.put, List.setIfInBounds_toArray, List.set_cons_zero, List.set_cons_succ]
    refine wpAnyH_take (i := 13) (oi := { dst := some 18, op := Op.load 40 (Operand.tmp 17), type := 40, pos := "queue.go:15", after := #[{ on := 12, ground := Ground.data }, { on := 9, ground := Ground.guard }], guard := some (9, true) }) (v := undef) rfl (by kernel_rfl) (by kernel_rfl) (by kernel_rfl) (fun _ _ _ h => h) (Or.inr ⟨by rfl, rfl⟩) (by assumption) ?_
    try simp only [Act.put, List.setIfInBounds_toArray, List.set_cons_zero, List.set_cons_succ]
    refine wpAnyH_take (i := 14) (oi := { dst := some 19, op := Op.move (Operand.tmp 1), type := 72, pos := "queue.go:15", after := #[{ on := 9, ground := Ground.guard }], guard := some (9, true) }) (v := undef) rfl (by kernel_rfl) (by kernel_rfl) (by kernel_rfl) (fun _ _ _ h => h) (Or.inr ⟨by rfl, rfl⟩) (by assumption) ?_
    try simp only [Act.put, List.setIfInBounds_toArray, List.set_cons_zero, List.set_cons_succ]
    refine wpAnyH_take (i := 15) (oi := { dst := some 20, op := Op.nilCheck (Operand.tmp 19), type := 0, pos := "queue.go:15", after := #[{ on := 14, ground := Ground.data }, { on := 9, ground := Ground.guard }], guard := some (9, true) }) (v := undef) rfl (by kernel_rfl) (by kernel_rfl) (by kernel_rfl) (fun _ _ _ h => h) (Or.inr ⟨by rfl, rfl⟩) (by assumption) ?_
    try simp only [Act.put, List.setIfInBounds_toArray, List.set_cons_zero, List.set_cons_succ]
    refine wpAnyH_take (i := 16) (oi := { dst := some 21, op := Op.fieldAddr 75 (Operand.tmp 20) 0, type := 0, pos := "queue.go:15", after := #[{ on := 15, ground := Ground.data }, { on := 9, ground := Ground.guard }], guard := some (9, true) }) (v := undef) rfl (by kernel_rfl) (by kernel_rfl) (by kernel_rfl) (fun _ _ _ h => h) (Or.inr ⟨by rfl, rfl⟩) (by assumption) ?_
    try simp only [Act.put, List.setIfInBounds_toArray, List.set_cons_zero, List.set_cons_succ]
    refine wpAnyH_take (i := 17) (oi := { dst := some 22, op := Op.load 40 (Operand.tmp 21), type := 40, pos := "queue.go:15", after := #[{ on := 16, ground := Ground.data }, { on := 9, ground := Ground.guard }], guard := some (9, true) }) (v := undef) rfl (by kernel_rfl) (by kernel_rfl) (by kernel_rfl) (fun _ _ _ h => h) (Or.inr ⟨by rfl, rfl⟩) (by assumption) ?_
    try simp only [Act.put, List.setIfInBounds_toArray, List.set_cons_zero, List.set_cons_succ]
    refine wpAnyH_take (i := 18) (oi := { dst := some 23, op := Op.call { callee := Callee.value (Operand.func 65), args := #[Operand.tmp 18, Operand.tmp 22], argTypes := #[40, 40] }, type := 4, pos := "queue.go:15", after := #[{ on := 13, ground := Ground.data }, { on := 17, ground := Ground.data }, { on := 9, ground := Ground.chain }, { on := 9, ground := Ground.guard }], guard := some (9, true) }) (v := undef) rfl (by kernel_rfl) (by kernel_rfl) (by kernel_rfl) (fun _ _ _ h => h) (Or.inr ⟨by rfl, rfl⟩) (by assumption) ?_
    try simp only [Act.put, List.setIfInBounds_toArray, List.set_cons_zero, List.set_cons_succ]
    refine wpAnyH_take (i := 19) (oi := { dst := some 24, op := Op.unOp UnOp.not 4 (Operand.tmp 23), type := 4, pos := "queue.go:15", after := #[{ on := 18, ground := Ground.data }, { on := 9, ground := Ground.guard }], guard := some (9, true) }) (v := undef) rfl (by kernel_rfl) (by kernel_rfl) (by kernel_rfl) (fun _ _ _ h => h) (Or.inr ⟨by rfl, rfl⟩) (by assumption) ?_
    try simp only [Act.put, List.setIfInBounds_toArray, List.set_cons_zero, List.set_cons_succ]
    refine wpAnyH_take (i := 20) (oi := { dst := some 25, op := Op.pick (Operand.tmp 14) (Operand.tmp 24) (Operand.const (Value.bool false)), type := 4, pos := "queue.go:15", after := #[{ on := 9, ground := Ground.data }, { on := 19, ground := Ground.data }], guard := none }) (v := ?_) rfl (by kernel_rfl) (by kernel_rfl) (by kernel_rfl) (fun _ _ _ h => h) (Or.inl ⟨by rfl, ?_⟩) (by assumption) ?_
    rotate_left 1
    · (intro w' hSw; (try dsimp only at hSw); go_simp; try (with_reducible rfl))
    try simp only [Act.put, List.setIfInBounds_toArray, List.set_cons_zero, List.set_cons_succ]
    refine wpAnyH_take (i := 21) (oi := { dst := some 4, op := Op.assign (Operand.tmp 25), type := 4, pos := "queue.go:15", after := #[{ on := 20, ground := Ground.data }, { on := 18, ground := Ground.chain }, { on := 0, ground := Ground.phase }, { on := 1, ground := Ground.phase }, { on := 2, ground := Ground.phase }, { on := 3, ground := Ground.phase }, { on := 4, ground := Ground.phase }, { on := 5, ground := Ground.phase }, { on := 6, ground := Ground.phase }, { on := 7, ground := Ground.phase }, { on := 8, ground := Ground.phase }, { on := 9, ground := Ground.phase }, { on := 10, ground := Ground.phase }, { on := 11, ground := Ground.phase }, { on := 12, ground := Ground.phase }, { on := 13, ground := Ground.phase }, { on := 14, ground := Ground.phase }, { on := 15, ground := Ground.phase }, { on := 16, ground := Ground.phase }, { on := 17, ground := Ground.phase }, { on := 18, ground := Ground.phase }, { on := 19, ground := Ground.phase }, { on := 20, ground := Ground.phase }], guard := none }) (v := ?_) rfl (by kernel_rfl) (by kernel_rfl) (by kernel_rfl) (fun _ _ _ h => h) (Or.inl ⟨by rfl, ?_⟩) (by assumption) ?_
    rotate_left 1
    · (intro w' hSw; (try dsimp only at hSw); go_simp; try (with_reducible rfl))
    try simp only [Act.put, List.setIfInBounds_toArray, List.set_cons_zero, List.set_cons_succ]
    refine wpAnyH_done (by kernel_rfl) ?_ _
    have HB9 := Lib.hid hHeld.1
    clear hHeld
    go_wp2
    go_ret
    exact ⟨rfl, HB9.out⟩
  · have hr : r = (xw || yw) := by rw [HC.out]; simp [e]
    subst hr
    have e2 : decide (yo = xo) = false := by rw [decide_eq_false_iff_not]; exact e
    have e5 : (yo == xo) = false := by rw [beq_eq_false_iff_ne]; exact e
    have e4 : (yo != xo) = true := by rw [bne_iff_ne]; exact e
    have HW := Lib.hid hw
    have HO := Lib.hid ho
    have KT := Lib.hid (fun W => together_any xk yk xw yw W)
    clear hw ho HC
    go_enter Try.func56, Try.ntmps56
    go_upto_region 1 with fail
    go_region_held3 (fun w' => Below W.heap.size W w' ∧ w'.cell? ⟨w, 0, none⟩ = some (.string xk) ∧ w'.cell? ⟨w, 1, none⟩ = some (.bool xw) ∧ w'.cell? ⟨w, 2, none⟩ = some (.int .i64 xo) ∧ w'.cell? ⟨o, 0, none⟩ = some (.string yk) ∧ w'.cell? ⟨o, 1, none⟩ = some (.bool yw) ∧ w'.cell? ⟨o, 2, none⟩ = some (.int .i64 yo))
      ((first | exact ⟨HB.out, HW.out.c0, HW.out.c1, HW.out.c2, HO.out.c0, HO.out.c1, HO.out.c2⟩ | assumption | exact ⟨hb9, keep_cell hb8 hb7.2.1, keep_cell hb8 hb7.2.2.1, keep_cell hb8 hb7.2.2.2.1, keep_cell hb8 hb7.2.2.2.2.1, keep_cell hb8 hb7.2.2.2.2.2.1, keep_cell hb8 hb7.2.2.2.2.2.2⟩))
      ((go_at_call 65; refine (KT.out _).mono ?_; rintro z w9 ⟨rfl, hb8⟩; have hb7 := ‹Below W.heap.size W _ ∧ _›; have hb9 := hb7.1.trans (hb8.mono hb7.1.size)))
    all_goals
      have HB9 := Lib.hid ‹Below W.heap.size W _ ∧ _›.1
      go_wp2
      go_ret
      exact ⟨by simp, HB9.out⟩
end
end Go.Proofs.Ytgabdlnbencglaa
