/-
  A BOOK OF SPACE IN MEMORY: a map of tallies by transactions, and the tally of all.
-/
import Derived.Test.YtjjbdkgnkieliaaSpBase
namespace Go.Proofs.Ytjjbdkgnkieliaa
open Go.RowKit Go.Maps Go.ChangeMaps Go.MapKept Go.WideElems
def encO : Option Nat → Int
  | none => 0
  | some b => (b : Int) + 1
theorem encO_inj {a b : Option Nat} (h : encO a = encO b) : a = b := by
  cases a <;> cases b <;> simp [encO] at h ⊢ <;> omega
def needV (o : Option Nat) : Value := .agg #[.map o]
/-- How a transaction's needs read: by the number of their block. -/
def needR {H : Type} : Value → Option (DataW H × List MemPlace)
  | .agg cs => match cs.toList with
    | [.map o] => some (.lit (.int .i64 (encO o)), [])
    | _ => none
  | _ => none
theorem needR_of {H : Type} (o : Option Nat) : needR (H := H) (needV o) = some (.lit (.int .i64 (encO o)), []) := rfl
theorem needR_inv {H : Type} {v : Value} {z : DataW H × List MemPlace} (h : needR v = some z) : ∃ o, v = needV o ∧ z = (.lit (.int .i64 (encO o)), []) := by
  unfold needR at h
  split at h
  · rename_i cs
    obtain ⟨l⟩ := cs
    dsimp only at h
    split at h
    · rename_i _ o
      exact ⟨o, rfl, (Option.some.inj h).symm⟩
    · cases h
  · cases h
theorem zero_need (w : World) : (zeroValue 62).run Try.prog w = .ok (needV none) w := by
  have h : (Try.prog.info? 62).map (·.zero) = some (some (.agg #[.map none])) := by kernel_rfl
  obtain ⟨i, hi, hz⟩ := Option.map_eq_some_iff.1 h
  simp [zeroValue, typeInfo, hi, hz, needV]
/-- Block M is a map of blocks: those of o. -/
def OutAt (W : World) (M n : Nat) (o : Int → Option Nat) : Prop := ∃ D, W.ownsMap Try.prog 3 (needR (H := Unit)) M n D ∧ (∀ i, D.atKey (.int .i64 i) (.lit (.int .i64 0)) = .lit (.int .i64 (encO (o i)))) ∧ ∀ i, has D (.int .i64 i) = (o i).isSome
theorem OutAt.kept {W W' : World} {M n : Nat} {o : Int → Option Nat} (h : OutAt W M n o) {row : Option Nat} (hg : W.grownBy W' row) (hne : some M ≠ row) : OutAt W' M n o := by
  obtain ⟨D, h1, h2⟩ := h
  exact ⟨D, h1.kept hg hne, h2⟩
theorem OutAt.of_block {W W' : World} {M n : Nat} {o : Int → Option Nat} (h : OutAt W M n o) (hb : W'.heap[M]? = W.heap[M]?) : OutAt W' M n o := by
  obtain ⟨D, ⟨es, clock, h1, F, hs, hD⟩, h2⟩ := h
  exact ⟨D, ⟨es, clock, hb.trans h1, F, hs, hD⟩, h2⟩
theorem OutAt.lt {W : World} {M n : Nat} {o : Int → Option Nat} (h : OutAt W M n o) : M < W.heap.size := by
  obtain ⟨D, h1, _⟩ := h
  exact h1.lt
theorem OutAt.mono {W : World} {M n n' : Nat} {o : Int → Option Nat} (h : OutAt W M n o) (hn : n ≤ n') : OutAt W M n' o := by
  obtain ⟨D, h1, h2⟩ := h
  exact ⟨D, h1.mono hn, h2⟩
theorem OutAt.made (W : World) : OutAt (W.alloc (.map #[] 0)) W.heap.size 0 (fun _ => none) :=
  ⟨.map [], World.ownsMap_made W _ _ _, fun i => atKey_empty i, fun i => by simp [has_eq]⟩
theorem OutAt.look {W : World} {M n : Nat} {o : Int → Option Nat} (h : OutAt W M n o) (i : Int) (hi : (Lit.int .i64 i).wf = true) :
    (Instr.lookup 53 (.map (some M)) (.int .i64 i) false).run Try.prog W = .ok (.agg #[.map (o i)]) W := by
  obtain ⟨D, h1, h2, _⟩ := h
  obtain ⟨v, ps, hrun, hv⟩ := h1.lookup keyLaw Try.underlying53 (zero_need W) (needR_of none) (keyOf_int_mk Try.underlying3 hi)
  rw [hrun]
  obtain ⟨o', rfl, hz⟩ := needR_inv hv
  simp only [Prod.mk.injEq] at hz
  have h4 := hz.1
  rw [show (DataW.lit (H := Unit) (.int .i64 (encO none))) = .lit (.int .i64 0) from rfl, h2 i] at h4
  have : encO (o i) = encO o' := by injection h4 with h4; injection h4
  rw [encO_inj this]; rfl
theorem OutAt.lookOk {W : World} {M n : Nat} {o : Int → Option Nat} (h : OutAt W M n o) (i : Int) (hi : (Lit.int .i64 i).wf = true) :
    (Instr.lookup 53 (.map (some M)) (.int .i64 i) true).run Try.prog W = .ok (.tuple #[.agg #[.map (o i)], .bool (o i).isSome]) W := by
  obtain ⟨D, h1, h2, h3⟩ := h
  obtain ⟨v, ps, hrun, hv⟩ := h1.look_ok keyLaw Try.underlying53 (zero_need W) (needR_of none) (keyOf_int_mk Try.underlying3 hi)
  rw [hrun]
  obtain ⟨o', rfl, hz⟩ := needR_inv hv
  simp only [Prod.mk.injEq] at hz
  have h4 := hz.1
  rw [show (DataW.lit (H := Unit) (.int .i64 (encO none))) = .lit (.int .i64 0) from rfl, h2 i] at h4
  have : encO (o i) = encO o' := by injection h4 with h4; injection h4
  have e := encO_inj this
  rw [h3 i, ← e]; rfl
def updO (f : Int → Option Nat) (i : Int) (z : Option Nat) : Int → Option Nat := fun k => if k = i then z else f k
theorem OutAt.store {W : World} {M n : Nat} {o : Int → Option Nat} (h : OutAt W M n o) (i : Int) (hi : (Lit.int .i64 i).wf = true) (b : Nat) (hn : n < maxLen) :
    ∃ W', (Instr.mapUpdate 53 (.map (some M)) (.int .i64 i) (.agg #[.map (some b)])).run Try.prog W = .ok () W' ∧ OutAt W' M (n + 1) (updO o i (some b)) ∧ W.grownBy W' (some M) ∧ W'.heap.size = W.heap.size := by
  obtain ⟨D, h1, h2, h3⟩ := h
  have hk := keyOf_int_mk (P := Try.prog) Try.underlying3 hi
  obtain ⟨W', hrun, hown, hg⟩ := h1.store keyLaw Try.underlying53 hn hk (needR_of (some b))
  refine ⟨W', hrun, ⟨_, hown, fun k => ?_, fun k => ?_⟩, hg.grown, ?_⟩
  · unfold updO
    by_cases e : k = i
    · subst e
      rw [atKey_put_same h1.isMap (show WideAt.IsKeyLit (.int .i64 k) from trivial), if_pos rfl]
    · rw [atKey_put_other (by intro x; injection x with _ x; exact e x), if_neg e]; exact h2 k
  · unfold updO
    by_cases e : k = i
    · subst e
      rw [has_put_same h1.isMap (show WideAt.IsKeyLit (.int .i64 k) from trivial), if_pos rfl]; rfl
    · rw [has_put_other (by intro x; injection x with _ x; exact e x), if_neg e]; exact h3 k
  · obtain ⟨es, clock, es', clock', hb, hw⟩ := hg
    rw [hw]; simp [setBlock]
theorem OutAt.drop {W : World} {M n : Nat} {o : Int → Option Nat} (h : OutAt W M n o) (i : Int) (hi : (Lit.int .i64 i).wf = true) (ty : TypeId) :
    ∃ W', (Builtin.delete_ #[53, 3] ty #[.map (some M), .int .i64 i]).run Try.prog W = .ok (.tuple #[]) W' ∧ OutAt W' M n (updO o i none) ∧ W.grownBy W' (some M) ∧ W'.heap.size = W.heap.size := by
  obtain ⟨D, h1, h2, h3⟩ := h
  have hk := keyOf_int_mk (P := Try.prog) Try.underlying3 hi
  obtain ⟨W', hrun, hown, hg⟩ := h1.drop keyLaw Try.underlying53 hk ty
  refine ⟨W', hrun, ⟨_, hown, fun k => ?_, fun k => ?_⟩, hg.grown, ?_⟩
  · unfold updO
    by_cases e : k = i
    · subst e
      rw [atKey_del_same, if_pos rfl]; rfl
    · rw [atKey_del_other (by intro x; injection x with _ x; exact e x), if_neg e]; exact h2 k
  · unfold updO
    by_cases e : k = i
    · subst e
      rw [has_del_same, if_pos rfl]; rfl
    · rw [has_del_other (by intro x; injection x with _ x; exact e x), if_neg e]; exact h3 k
  · obtain ⟨es, clock, es', clock', hb, hw⟩ := hg
    rw [hw]; simp [setBlock]
def upd2 (g : Int → Int → Int) (t p z : Int) : Int → Int → Int := fun t' => if t' = t then updI (g t) p z else g t'
/-- A book in memory: what each transaction needs, and all together. -/
structure SpIn (W : World) (S T A n : Nat) (o : Int → Option Nat) (g : Int → Int → Int) (a : Int → Int) : Prop where
  c0 : W.cell? ⟨S, 0, none⟩ = some (.map (some T))
  c1 : W.cell? ⟨S, 1, none⟩ = some (.map (some A))
  ot : OutAt W T n o
  al : TalAt W A n a
  inn : ∀ t b, o t = some b → TalAt W b n (g t)
  non : ∀ t, o t = none → ∀ p, g t p = 0
  gb : ∀ t p, 0 ≤ g t p ∧ g t p ≤ n
  ab : ∀ p, 0 ≤ a p ∧ a p ≤ n
  st : S ≠ T
  sa : S ≠ A
  ta : T ≠ A
  tb : ∀ t b, o t = some b → b ≠ S ∧ b ≠ T ∧ b ≠ A
  inj : ∀ t t' b, o t = some b → o t' = some b → t = t'
/-- What a book's calls leave alone: all but the book's maps. -/
structure SpFr (W W' : World) (T A : Nat) (o o' : Int → Option Nat) : Prop where
  os : W'.os = W.os
  tape : W'.tape = W.tape
  output : W'.output = W.output
  size : W.heap.size ≤ W'.heap.size
  block : ∀ k, k < W.heap.size → k ≠ T → k ≠ A → (∀ t, o t ≠ some k) → W'.heap[k]? = W.heap[k]?
  own : ∀ t b, o' t = some b → o t = some b ∨ W.heap.size ≤ b
section
variable {W W' W'' : World} {S T A n : Nat} {o o' o'' : Int → Option Nat} {g : Int → Int → Int} {a : Int → Int}
theorem SpFr.refl (W : World) : SpFr W W T A o o := ⟨rfl, rfl, rfl, Nat.le_refl _, fun _ _ _ _ _ => rfl, fun _ _ h => .inl h⟩
theorem SpFr.trans (h : SpFr W W' T A o o') (k : SpFr W' W'' T A o' o'') : SpFr W W'' T A o o'' where
  os := k.os.trans h.os
  tape := k.tape.trans h.tape
  output := k.output.trans h.output
  size := Nat.le_trans h.size k.size
  block := fun i hi h1 h2 h3 => (k.block i (Nat.lt_of_lt_of_le hi h.size) h1 h2 (fun t e => by
    rcases h.own t i e with e | e
    · exact h3 t e
    · omega)).trans (h.block i hi h1 h2 h3)
  own := fun t b e => by
    rcases k.own t b e with e | e
    · exact h.own t b e
    · exact .inr (Nat.le_trans h.size e)
theorem SpFr.of_below (h : Below W.heap.size W W') : SpFr W W' T A o o := ⟨h.os, h.tape, h.output, h.size, fun i hi _ _ _ => h.block i hi, fun _ _ h => .inl h⟩
/-- Whatever lies ahead of all of the book's blocks stays. -/
theorem SpFr.below (h : SpFr W W' T A o o') {B : Nat} (hW : B ≤ W.heap.size) (hT : B ≤ T) (hA : B ≤ A) (ho : ∀ t b, o t = some b → B ≤ b) : Below B W W' :=
  ⟨h.os, h.tape, h.output, h.size, fun i hi => h.block i (by omega) (by omega) (by omega) (fun t e => by have := ho t i e; omega)⟩
theorem SpFr.cell (h : SpFr W W' T A o o') {p : Addr} {v : Value} (hc : W.cell? p = some v) (h1 : p.block ≠ T) (h2 : p.block ≠ A) (h3 : ∀ t, o t ≠ some p.block) : W'.cell? p = some v :=
  (World.cell?_of_block (h.block p.block (block_lt hc) h1 h2 h3)).trans hc
theorem SpIn.lts (h : SpIn W S T A n o g a) : S < W.heap.size ∧ T < W.heap.size ∧ A < W.heap.size ∧ ∀ t b, o t = some b → b < W.heap.size :=
  ⟨block_lt h.c0, h.ot.lt, h.al.lt, fun t b e => (h.inn t b e).lt⟩
theorem SpIn.of_blocks (h : SpIn W S T A n o g a) (hS : W'.heap[S]? = W.heap[S]?) (hT : W'.heap[T]? = W.heap[T]?) (hA : W'.heap[A]? = W.heap[A]?) (ho : ∀ t b, o t = some b → W'.heap[b]? = W.heap[b]?) : SpIn W' S T A n o g a :=
  { h with
    c0 := (World.cell?_of_block (a := ⟨S, 0, none⟩) hS).trans h.c0, c1 := (World.cell?_of_block (a := ⟨S, 1, none⟩) hS).trans h.c1,
    ot := h.ot.of_block hT, al := h.al.of_block hA, inn := fun t b e => (h.inn t b e).of_block (ho t b e) }
theorem SpIn.below (h : SpIn W S T A n o g a) (hb : Below W.heap.size W W') : SpIn W' S T A n o g a := by
  obtain ⟨h1, h2, h3, h4⟩ := h.lts
  exact h.of_blocks (hb.block _ h1) (hb.block _ h2) (hb.block _ h3) (fun t b e => hb.block _ (h4 t b e))
/-- Another block is written. -/
theorem SpIn.other (h : SpIn W S T A n o g a) {x : Nat} (hg : W.grownBy W' (some x)) (h1 : x ≠ S) (h2 : x ≠ T) (h3 : x ≠ A) (h4 : ∀ t, o t ≠ some x) : SpIn W' S T A n o g a := by
  obtain ⟨l1, l2, l3, l4⟩ := h.lts
  have key : ∀ k, k < W.heap.size → x ≠ k → W'.heap[k]? = W.heap[k]? := fun k hk hx => hg.block k hk (by intro e; injection e with e; exact hx e.symm)
  exact h.of_blocks (key _ l1 h1) (key _ l2 h2) (key _ l3 h3) (fun t b e => key _ (l4 t b e) (fun q => h4 t (q ▸ e)))
theorem SpIn.mono (h : SpIn W S T A n o g a) {n' : Nat} (hn : n ≤ n') : SpIn W S T A n' o g a :=
  { h with ot := h.ot.mono hn, al := h.al.mono hn, inn := fun t b e => (h.inn t b e).mono hn, gb := fun t p => ⟨(h.gb t p).1, by have := (h.gb t p).2; omega⟩, ab := fun p => ⟨(h.ab p).1, by have := (h.ab p).2; omega⟩ }
end
end Go.Proofs.Ytjjbdkgnkieliaa
