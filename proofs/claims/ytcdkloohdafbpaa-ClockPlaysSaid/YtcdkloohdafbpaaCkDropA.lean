/-
  append OF law 09: a row of ints of the call's own.
-/
import Derived.Test.YtcdkloohdafbpaaCkDoesB
import Derived.Laws.OwnMore
import Derived.Laws.AppendOwn
namespace Go.Proofs.Ytcdkloohdafbpaa
open Go.RowKit
theorem run_append_nil {P : Program} {w : World} (base : Nat) (t ty e : TypeId) (i : TypeInfo) (size : Nat) (ht : P.underlying t = some (.slice e)) (hi : P.info? e = some i)
    (v : Value) (n : Nat) (xs : List Value) (c : Nat) (hown : w.ownsRow base e size v n xs) :
    (Builtin.append_ #[t, t] ty #[v, .slice none 0 c]).run P w = .ok v w := by
  rcases hown.2 with ⟨rfl, rfl⟩ | ⟨g, cap, cur, rfl, _, _, hnc, _⟩
  · simp [Builtin.append_, run_underlying ht, sizeOf, typeInfo, hi, Builtin.lenOf, Builtin.firstCells]
  · simp [Builtin.append_, run_underlying ht, sizeOf, typeInfo, hi, Builtin.lenOf, Builtin.firstCells, hnc, storeCells]
def vals (l : List Int) : List Value := l.map fun z => .int .i64 z
theorem vals_get (l : List Int) (i : Nat) (h : i < l.length) : (vals l)[i]? = some (.int .i64 (l.getD i 0)) := by
  unfold vals
  rw [List.getElem?_map, List.getD_eq_getElem?_getD, List.getElem?_eq_getElem h]; rfl
theorem infoIn : (Try.prog.info? 3).map (fun i => (i.zero, i.size, i.bytes)) = some (some (.int .i64 0), 1, 8) := by kernel_rfl
theorem info_partsIn : ∃ i, Try.prog.info? 3 = some i ∧ i.zero = some (.int .i64 0) ∧ i.size = 1 ∧ i.bytes = 8 := by
  obtain ⟨i, hi, hzz⟩ := Option.map_eq_some_iff.1 infoIn
  simp only [Prod.mk.injEq] at hzz
  exact ⟨i, hi, hzz.1, hzz.2.1, hzz.2.2⟩
theorem append_ints {w : World} {ops : Array Oper} {rest : List Oper} {o : Oper} {a : Act} {Q : Exit → Act → World → Prop} (hgd : o.guard = none) (s x : Operand)
    (ho : o.op = .call { callee := .builtin .append, args := #[s, x], argTypes := #[28, 28] })
    (base : Nat) (v : Value) (l0 : List Int) (hs : a.eval s = v) (hown : w.ownsRow base 3 1 v l0.length (vals l0))
    (ma : Option Addr) (ml : List Int) (mc : Nat) (hx : a.eval x = .slice ma ml.length mc) (hm : IntsAt w ma ml) (h10 : l0.length + ml.length ≤ 1000) (hbase : base ≤ w.heap.size)
    (h : ∀ v' w', w'.ownsRow base 3 1 v' (l0 ++ ml).length (vals (l0 ++ ml)) → w.grownBy w' v.ownBlock → wpList Try.prog ops Q rest (a.put o.dst v') w') : wpList Try.prog ops Q (o :: rest) a w := by
  obtain ⟨i0, hi, hz0, hz1, hz2⟩ := info_partsIn
  have hv : vals (l0 ++ ml) = vals l0 ++ vals ml := List.map_append
  have hvl : (vals ml).length = ml.length := List.length_map _
  cases ma with
  | some ad =>
    refine wpList_append_own w hgd s x 28 ho base 3 i0 (.int .i64 0) 1 8 Try.underlying28 hi hz0 hz1 hz2 rfl (by decide) v l0.length (vals l0) hs hown ad ml.length mc (vals ml) hx (by rw [hvl, Nat.mul_one]) ?_ ?_ (by unfold maxLen; omega) (by omega) hbase (fun v' w' h1 h2 _ => h v' w' (by rw [hv, List.length_append]; exact h1) h2)
    · intro j u hj
      have hlt : j < ml.length := by rw [← hvl]; exact (List.getElem?_eq_some_iff.1 hj).1
      rw [vals_get ml j hlt] at hj
      rcases hm with hm | ⟨b, off, e, hm⟩
      · subst hm; simp at hlt
      · injection e with e; subst e
        rw [show (⟨b, off, none⟩ : Addr).add j = ⟨b, off + j, none⟩ by simp [Addr.add], hm j hlt]; exact hj
    · intro u hu
      unfold vals at hu
      obtain ⟨z, _, rfl⟩ := List.mem_map.1 hu; rfl
  | none =>
    have hn : ml = [] := by
      rcases hm with hm | ⟨b, off, e, _⟩
      · exact hm
      · cases e
    subst hn
    have h1 := h v w (by rw [List.append_nil]; exact hown) ⟨rfl, rfl, rfl, Nat.le_refl _, fun _ _ _ => rfl⟩
    refine wpList_plain hgd fun K hK => ?_
    have hrun := run_append_nil (P := Try.prog) (w := w) base 28 o.type 3 i0 1 Try.underlying28 hi v l0.length (vals l0) mc hown
    simp only [List.length_nil] at hx
    unfold Oper.wp
    simp [execOp, ho, resolve, invoke, builtin, hs, hx, hrun, Result.andThen]
    exact hK _ _ h1
end Go.Proofs.Ytcdkloohdafbpaa
