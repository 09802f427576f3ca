/-
  THE CONTRACTS OF txn's New, made, begun; a table in memory.
-/
import Derived.Test.YtophbefmlfieeaaTxNoteB
import Derived.WalkSpells
namespace Go.Proofs.Ytophbefmlfieeaa
open Go.RowKit
set_option maxRecDepth 100000 in
theorem tnew_raw (W : World) : Calls Try.prog 9 #[] W fun x w' => x = .returned (.pointer (some ⟨W.heap.size + 1, 0, none⟩)) ∧ w' = (W.alloc (.map #[] 0)).alloc (.cells #[.map (some W.heap.size)] 70) := by
  have hmm := @run_makeMap Try.prog
  go_enter Try.func9, Try.ntmps9
  go_wp2
  go_ret
  exact ⟨rfl, rfl⟩
set_option maxRecDepth 100000 in
theorem made_nil (W : World) : Calls Try.prog 28 #[.pointer none] W fun x w' => x = .returned (.bool false) ∧ W = w' := by
  go_enter Try.func28, Try.ntmps28
  go_wp2
  go_ret
  exact ⟨rfl, rfl⟩
set_option maxRecDepth 100000 in
theorem made_yes {W : World} {t M : Nat} (h : W.cell? ⟨t, 0, none⟩ = some (.map (some M))) : Calls Try.prog 28 #[.pointer (some ⟨t, 0, none⟩)] W fun x w' => x = .returned (.bool true) ∧ W = w' := by
  have qT : ∀ (w : World) (r : Option Nat), (binOp .neq 68 (.map r) (.map none)).run Try.prog w = .ok (.bool (!r.isNone)) w := fun w r => run_neq_map_nil w _ _ _ r Try.underlying68
  go_enter Try.func28, Try.ntmps28
  go_wp2
  go_ret
  exact ⟨rfl, rfl⟩
set_option maxRecDepth 100000 in
theorem begun_raw (home k g t p pg u : Int) (key sb sa : ByteArray) (hb ha : Bool) (W : World) :
    Calls Try.prog 48 #[.int .i64 home, .agg #[.int .i64 k, .int .i64 g, .int .i64 t, .int .i64 p, .int .i64 pg, .string key, .bool hb, .string sb, .bool ha, .string sa, .int .i64 u]] W fun x w' =>
      x = .returned (.pointer (some ⟨W.heap.size + 1, 0, none⟩)) ∧ w' = (W.alloc (.cells #[.int .i64 k, .int .i64 g, .int .i64 t, .int .i64 p, .int .i64 pg, .string key, .bool hb, .string sb, .bool ha, .string sa, .int .i64 u] 38)).alloc (.cells #[.int .i64 t, .int .i64 home, .int .i64 g, .int .i64 g, .int .i64 1, .slice none 0 0, .slice none 0 0] 78) := by
  have c1 : (W.alloc (.cells #[.int .i64 k, .int .i64 g, .int .i64 t, .int .i64 p, .int .i64 pg, .string key, .bool hb, .string sb, .bool ha, .string sa, .int .i64 u] 38)).cell? ⟨W.heap.size, 1, none⟩ = some (.int .i64 g) := new_cell rfl rfl
  have c2 : (W.alloc (.cells #[.int .i64 k, .int .i64 g, .int .i64 t, .int .i64 p, .int .i64 pg, .string key, .bool hb, .string sb, .bool ha, .string sa, .int .i64 u] 38)).cell? ⟨W.heap.size, 2, none⟩ = some (.int .i64 t) := new_cell rfl rfl
  have hs : (W.alloc (.cells #[.int .i64 k, .int .i64 g, .int .i64 t, .int .i64 p, .int .i64 pg, .string key, .bool hb, .string sb, .bool ha, .string sa, .int .i64 u] 38)).heap.size = W.heap.size + 1 := World.size_alloc _ _
  go_enter Try.func48, Try.ntmps48
  go_wp2
  go_ret
  exact ⟨rfl, rfl⟩
/-- A transaction that has begun. -/
def newKn (home g t : Int) : KnD := ⟨t, home, g, g, 1, .slice none 0 0, [], .slice none 0 0, []⟩
theorem begun_any (home k g t p pg u : Int) (key sb sa : ByteArray) (hb ha : Bool) (W : World) (B : Nat) (hB : B ≤ W.heap.size) :
    Calls Try.prog 48 #[.int .i64 home, .agg #[.int .i64 k, .int .i64 g, .int .i64 t, .int .i64 p, .int .i64 pg, .string key, .bool hb, .string sb, .bool ha, .string sa, .int .i64 u]] W fun x w' =>
      x = .returned (.pointer (some ⟨W.heap.size + 1, 0, none⟩)) ∧ KnIs w' B (W.heap.size + 1) (newKn home g t) ∧ Below W.heap.size W w' := by
  refine (begun_raw home k g t p pg u key sb sa hb ha W).mono ?_
  rintro x w' ⟨rfl, rfl⟩
  have hs : (W.alloc (.cells #[.int .i64 k, .int .i64 g, .int .i64 t, .int .i64 p, .int .i64 pg, .string key, .bool hb, .string sb, .bool ha, .string sa, .int .i64 u] 38)).heap.size = W.heap.size + 1 := World.size_alloc _ _
  have hb1 := (Below.refl W.heap.size W).alloc (Nat.le_refl _) (.cells #[.int .i64 k, .int .i64 g, .int .i64 t, .int .i64 p, .int .i64 pg, .string key, .bool hb, .string sb, .bool ha, .string sa, .int .i64 u] 38)
  refine ⟨rfl, ?_, hb1.alloc hb1.size _⟩
  exact ⟨new_cell hs.symm rfl, new_cell hs.symm rfl, new_cell hs.symm rfl, new_cell hs.symm rfl, new_cell hs.symm rfl, new_cell hs.symm rfl, new_cell hs.symm rfl, fun i => World.frozen?_alloc_at _ _ _ _ hs.symm, World.ownsRow_nil _ _ _ _, World.ownsRow_nil _ _ _ _, by simp [newKn, Value.ownBlock], by simp [newKn, Value.ownBlock], by simp [newKn, Value.ownBlock], by omega⟩
/-! ### a table -/
/-- The blocks of a known transaction. -/
def KnB (x : Nat × KnD) (k : Nat) : Prop := k = x.1 ∨ x.2.cv.ownBlock = some k ∨ x.2.pv.ownBlock = some k
theorem KnIs.ltB {W : World} {B K : Nat} {d : KnD} (h : KnIs W B K d) {k : Nat} (hk : KnB (K, d) k) : k < W.heap.size ∧ B ≤ k := by
  rcases hk with e | e | e
  · simp only at e; subst e; exact ⟨h.lt, h.lo⟩
  · exact (fun q => ⟨q.2, q.1⟩) (World.ownsRow.lt h.cr k e)
  · exact (fun q => ⟨q.2, q.1⟩) (World.ownsRow.lt h.pr k e)
theorem row_block {W X : World} {B size n : Nat} {e : TypeId} {v : Value} {xs : List Value} (h : W.ownsRow B e size v n xs) (hb : ∀ k, v.ownBlock = some k → X.heap[k]? = W.heap[k]?) : X.ownsRow B e size v n xs := by
  refine ⟨h.1, ?_⟩
  rcases h.2 with hn | ⟨g, cap, cur, hv, h1, h2, h3⟩
  · exact .inl hn
  · exact .inr ⟨g, cap, cur, hv, h1, (hb g (by rw [hv]; rfl)).trans h2, h3⟩
structure TbAt (W : World) (B t M n : Nat) (m : Int → Option (Nat × KnD)) : Prop where
  ct : W.cell? ⟨t, 0, none⟩ = some (.map (some M))
  fr : FrAt W M n (fun i => (m i).map (·.1))
  kn : ∀ i K d, m i = some (K, d) → KnIs W B K d
  sep : ∀ i j x y k, i ≠ j → m i = some x → m j = some y → KnB x k → ¬ KnB y k
  tb : ∀ i x, m i = some x → ¬ KnB x t ∧ ¬ KnB x M
  tm : t ≠ M
  lo : B ≤ t ∧ B ≤ M
/-- What a table's calls leave alone: all but its map, and its transactions'. -/
def TbOwn (M : Nat) (m : Int → Option (Nat × KnD)) (k : Nat) : Prop := k = M ∨ ∃ i x, m i = some x ∧ KnB x k
structure FrP (W X : World) (Q : Nat → Prop) : Prop where
  os : X.os = W.os
  tape : X.tape = W.tape
  output : X.output = W.output
  size : W.heap.size ≤ X.heap.size
  block : ∀ k, k < W.heap.size → ¬ Q k → X.heap[k]? = W.heap[k]?
section
variable {W X Y : World} {B t M n : Nat} {m : Int → Option (Nat × KnD)} {Q Q' : Nat → Prop}
theorem FrP.refl (W : World) (Q : Nat → Prop) : FrP W W Q := ⟨rfl, rfl, rfl, Nat.le_refl _, fun _ _ _ => rfl⟩
theorem FrP.trans (h : FrP W X Q) (g : FrP X Y Q') (hq : ∀ k, Q' k → Q k ∨ W.heap.size ≤ k) : FrP W Y Q :=
  ⟨g.os.trans h.os, g.tape.trans h.tape, g.output.trans h.output, Nat.le_trans h.size g.size, fun k hk hn => (g.block k (Nat.lt_of_lt_of_le hk h.size) (fun c => by
    rcases hq k c with q | q
    · exact hn q
    · omega)).trans (h.block k hk hn)⟩
theorem FrP.of_below (h : Below W.heap.size W X) : FrP W X Q := ⟨h.os, h.tape, h.output, h.size, fun k hk _ => h.block k hk⟩
/-- Whatever lies ahead of all own blocks stays. -/
theorem FrP.below (h : FrP W X Q) (hB : B ≤ W.heap.size) (hq : ∀ k, Q k → B ≤ k) : Below B W X :=
  ⟨h.os, h.tape, h.output, h.size, fun k hk => h.block k (Nat.lt_of_lt_of_le hk hB) (fun c => by have := hq k c; omega)⟩
theorem TbAt.lts (h : TbAt W B t M n m) : t < W.heap.size ∧ M < W.heap.size := ⟨block_lt (p := ⟨t, 0, none⟩) h.ct, h.fr.lt⟩
theorem TbAt.ownLt (h : TbAt W B t M n m) {k : Nat} (hk : TbOwn M m k) : k < W.heap.size ∧ B ≤ k := by
  rcases hk with rfl | ⟨i, ⟨K, d⟩, e, hk⟩
  · exact ⟨h.lts.2, h.lo.2⟩
  · exact (h.kn i K d e).ltB hk
/-- Other blocks than the table's may change. -/
theorem TbAt.frame (h : TbAt W B t M n m) (hf : FrP W X Q) (hq : ∀ k, k = t ∨ TbOwn M m k → ¬ Q k) : TbAt X B t M n m := by
  have hk : ∀ i K d, m i = some (K, d) → KnIs X B K d := fun i K d e => by
    have hd := h.kn i K d e
    have hbk : ∀ k, KnB (K, d) k → X.heap[k]? = W.heap[k]? := fun k hk => hf.block k (hd.ltB hk).1 (hq k (.inr (.inr ⟨i, _, e, hk⟩)))
    have c : ∀ {j : Nat} {u : Value}, W.cell? ⟨K, j, none⟩ = some u → X.cell? ⟨K, j, none⟩ = some u := fun hc => (World.cell?_of_block (hbk K (.inl rfl))).trans hc
    exact ⟨c hd.c0, c hd.c1, c hd.c2, c hd.c3, c hd.c4, c hd.c5, c hd.c6, fun j => (World.frozen?_of_block (a := ⟨K, j, none⟩) (hbk K (.inl rfl))).trans (hd.fz j), row_block hd.cr (fun k e => hbk k (.inr (.inl e))), row_block hd.pr (fun k e => hbk k (.inr (.inr e))), hd.nc, hd.np, hd.ncp, hd.lo⟩
  exact ⟨(World.cell?_of_block (hf.block t h.lts.1 (hq t (.inl rfl)))).trans h.ct, h.fr.of_block (hf.block M h.lts.2 (hq M (.inr (.inl rfl)))), hk, h.sep, h.tb, h.tm, h.lo⟩
theorem TbAt.below (h : TbAt W B t M n m) (hb : Below W.heap.size W X) : TbAt X B t M n m := h.frame (Q := fun _ => False) (FrP.of_below hb) (fun _ _ c => c)
end
end Go.Proofs.Ytophbefmlfieeaa
