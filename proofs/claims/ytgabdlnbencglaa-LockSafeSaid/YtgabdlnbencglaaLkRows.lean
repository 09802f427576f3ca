/-
  append OF A ROW TO A ROW OF THE CALL'S OWN.
-/
import Derived.Test.YtgabdlnbencglaaLkPassG
import Derived.Laws.OwnMore
namespace Go.Proofs.Ytgabdlnbencglaa
open Go.RowKit
theorem run_append_nil {P : Program} {w : World} (base : Nat) (t ty e : TypeId) (i : TypeInfo) (size : Nat) (ht : P.underlying t = some (.slice e)) (hi : P.info? e = some i)
    (v : Value) (n : Nat) (xs : List Value) (c : Nat) (hown : w.ownsRow base e size v n xs) :
    (Builtin.append_ #[t, t] ty #[v, .slice none 0 c]).run P w = .ok v w := by
  rcases hown.2 with ⟨rfl, rfl⟩ | ⟨g, cap, cur, rfl, _, _, hnc, _⟩
  · simp [Builtin.append_, run_underlying ht, sizeOf, typeInfo, hi, Builtin.lenOf, Builtin.firstCells]
  · simp [Builtin.append_, run_underlying ht, sizeOf, typeInfo, hi, Builtin.lenOf, Builtin.firstCells, hnc, storeCells]
theorem append_rows {w : World} {ops : Array Oper} {rest : List Oper} {o : Oper} {a : Act} {Q : Exit → Act → World → Prop} (hgd : o.guard = none) (s x : Operand) (t : TypeId)
    (ho : o.op = .call { callee := .builtin .append, args := #[s, x], argTypes := #[t, t] })
    (base : Nat) (e : TypeId) (i0 : TypeInfo) (z : Value) (size bytes : Nat) (ht : Try.prog.underlying t = some (.slice e)) (hi : Try.prog.info? e = some i0) (hz : i0.zero = some z) (hsize : i0.size = size) (hby : i0.bytes = bytes) (hzs : z.cells.size = size) (hsz : 0 < size)
    (v : Value) (n : Nat) (xs : List Value) (hs : a.eval s = v) (hown : w.ownsRow base e size v n xs)
    (vx : Value) (m : Nat) (ys : List Value) (hx : a.eval x = vx) (hy : (vx = .slice none 0 0 ∧ m = 0 ∧ ys = []) ∨ ∃ ad c, vx = .slice (some ad) m c ∧ ys.length = m * size ∧ (∀ j u, ys[j]? = some u → w.cell? (ad.add j) = some u) ∧ (∀ u ∈ ys, u.oneCell' = true))
    (h63 : n + m ≤ maxLen) (hbytes : (n + m) * bytes ≤ 140737488355328) (hbase : base ≤ w.heap.size)
    (h : ∀ v' w', w'.ownsRow base e size v' (n + m) (xs ++ ys) → w.grownBy w' v.ownBlock → (v' = .slice none 0 0 ↔ v = .slice none 0 0 ∧ m = 0) → (v'.ownBlock = v.ownBlock ∨ v'.ownBlock = some w.heap.size) → wpList Try.prog ops Q rest (a.put o.dst v') w') :
    wpList Try.prog ops Q (o :: rest) a w := by
  rcases hy with ⟨rfl, rfl, rfl⟩ | ⟨ad, c, rfl, hl, hc, h1⟩
  · have h1 := h v w (by rw [List.append_nil]; exact hown) ⟨rfl, rfl, rfl, Nat.le_refl _, fun _ _ _ => rfl⟩ ⟨fun e => ⟨e, rfl⟩, fun e => e.1⟩ (.inl rfl)
    refine wpList_plain hgd fun K hK => ?_
    have hrun := run_append_nil (P := Try.prog) (w := w) base t o.type e i0 size ht hi v n xs 0 hown
    unfold Oper.wp
    simp [execOp, ho, resolve, invoke, builtin, hs, hx, hrun, Result.andThen]
    exact hK _ _ h1
  · exact wpList_append_own_at _ hgd s x t ho base e i0 z size bytes ht hi hz hsize hby hzs hsz v n xs hs hown ad m c ys hx hl hc h1 h63 hbytes hbase h
theorem rowS_row {W : World} {B : Nat} {v : Value} {ts : List ByteArray} (h : RowS W B v ts) (h0 : ts = [] → v = .slice none 0 0) : (v = .slice none 0 0 ∧ ts.length = 0 ∧ ts.map Value.string = []) ∨ ∃ ad c, v = .slice (some ad) ts.length c ∧ (ts.map Value.string).length = ts.length * 1 ∧ (∀ j u, (ts.map Value.string)[j]? = some u → W.cell? (ad.add j) = some u) ∧ (∀ u ∈ ts.map Value.string, u.oneCell' = true) := by
  by_cases e : ts = []
  · subst e
    exact .inl ⟨h0 rfl, rfl, rfl⟩
  · obtain ⟨g, c, rfl, _, hc⟩ := h.cells (List.length_pos_iff.2 e)
    refine .inr ⟨_, c, rfl, by simp, fun j u hj => ?_, fun u hu => ?_⟩
    · have hj2 : j < ts.length := by
        have := (List.getElem?_eq_some_iff.1 hj).1
        simpa using this
      rw [List.getElem?_map, List.getElem?_eq_getElem hj2] at hj
      have := hc j hj2
      rw [List.getD_eq_getElem?_getD, List.getElem?_eq_getElem hj2] at this
      rw [show (⟨g, 0, none⟩ : Addr).add j = ⟨g, j, none⟩ by simp [Addr.add]; exact fun e => e.symm, this]
      exact hj
    · obtain ⟨t, _, rfl⟩ := List.mem_map.1 hu
      rfl
/-- append of texts to texts. -/
theorem append_ss {w : World} {ops : Array Oper} {rest : List Oper} {o : Oper} {a : Act} {Q : Exit → Act → World → Prop} (hgd : o.guard = none) (s x : Operand)
    (ho : o.op = .call { callee := .builtin .append, args := #[s, x], argTypes := #[85, 85] })
    (B B2 : Nat) (v vx : Value) (ts us : List ByteArray) (hs : a.eval s = v) (hown : RowS w B v ts) (hx : a.eval x = vx) (hox : RowS w B2 vx us) (h0 : us = [] → vx = .slice none 0 0) (h10 : ts.length + us.length ≤ 1000000) (hB : B ≤ w.heap.size)
    (h : ∀ v' w', RowS w' B v' (ts ++ us) → w.grownBy w' v.ownBlock → (v' = .slice none 0 0 ↔ v = .slice none 0 0 ∧ us.length = 0) → (v'.ownBlock = v.ownBlock ∨ v'.ownBlock = some w.heap.size) → wpList Try.prog ops Q rest (a.put o.dst v') w') :
    wpList Try.prog ops Q (o :: rest) a w := by
  obtain ⟨i0, hi, hzz⟩ := Option.map_eq_some_iff.1 infoS
  simp only [Prod.mk.injEq] at hzz
  obtain ⟨hz0, hz1, hz2⟩ := hzz
  refine append_rows hgd s x 85 ho B 9 i0 (.string ⟨#[]⟩) 1 16 Try.underlying85 hi hz0 hz1 hz2 rfl (by decide) v ts.length (ts.map Value.string) hs hown vx us.length (us.map Value.string) hx (rowS_row hox h0) (by unfold maxLen; omega) (by omega) hB (fun v' w' h1 h2 h3 h4 => h v' w' ?_ h2 h3 h4)
  unfold RowS
  rw [List.length_append, List.map_append]; exact h1
end Go.Proofs.Ytgabdlnbencglaa
