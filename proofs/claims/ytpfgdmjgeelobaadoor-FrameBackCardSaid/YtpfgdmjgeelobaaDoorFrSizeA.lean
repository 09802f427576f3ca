/-
  append([]string{d}, more...): A ROW THAT READS AS THESE TEXTS.
-/
import Derived.Test.YtpfgdmjgeelobaaDoorFrLong
import Derived.Maps.AppendAt
import Derived.Laws.OwnMore
namespace Go.Proofs.YtpfgdmjgeelobaaDoor
open Go.RowKit Crc

theorem infoS : (Tryd.prog.info? 9).map (fun i => (i.zero, i.size, i.bytes)) = some (some (.string ⟨#[]⟩), 1, 16) := by kernel_rfl

theorem strs_of_own {w : World} {B : Nat} {v : Value} {n : Nat} {l : List ByteArray} (h : w.ownsRow B 9 1 v n (l.map Value.string)) (hn : n = l.length) : ∃ a c, v = .slice a l.length c ∧ StrsAt w a l := by
  subst hn
  rcases h.2 with ⟨hv, h0⟩ | ⟨g, c, cur, hv, _⟩
  · exact ⟨none, 0, by rw [hv, h0], .inl (List.length_eq_zero_iff.1 h0)⟩
  · subst hv
    refine ⟨_, c, rfl, .inr ⟨g, 0, rfl, fun i hi => ?_⟩⟩
    rw [Nat.zero_add, h.cellAt i (by omega)]
    rw [List.getElem?_map, List.getD_eq_getElem?_getD, List.getElem?_eq_getElem hi]; rfl

/-- Nothing appended, whatever room it says. -/
theorem append_nothing {W : World} (B : Nat) (ty : TypeId) (i : TypeInfo) (hi : Tryd.prog.info? 9 = some i) (v : Value) (n : Nat) (xs : List Value) (hown : W.ownsRow B 9 1 v n xs) (c : Nat) :
    (Builtin.append_ #[24, 24] ty #[v, .slice none 0 c]).run Tryd.prog W = .ok v W := by
  rcases hown.2 with ⟨rfl, rfl⟩ | ⟨g, cap, cur, rfl, _, _, hnc, _⟩
  · simp [Builtin.append_, run_underlying Tryd.underlying24, sizeOf, typeInfo, hi, Builtin.lenOf, Builtin.firstCells]
  · simp [Builtin.append_, run_underlying Tryd.underlying24, sizeOf, typeInfo, hi, Builtin.lenOf, Builtin.firstCells, hnc, storeCells]

/-- What append leaves of one text and those of a row behind it: a row that reads as all of them; nothing that was there has turned. -/
theorem append_more (d : ByteArray) (a : Option Addr) (ss : List ByteArray) (cap : Nat) (W : World) (hn : ss.length ≤ 1000) (ha : StrsAt W a ss) :
    ∃ (a' : Option Addr) (c' : Nat) (W' : World), (Builtin.append_ #[24, 24] 24 #[.slice (some ⟨W.heap.size, 0, none⟩) 1 1, .slice a ss.length cap]).run Tryd.prog (W.alloc (.cells #[.string d] 9)) =
        .ok (.slice a' (ss.length + 1) c') W' ∧ StrsAt W' a' (d :: ss) ∧ Below W.heap.size W W' := by
  obtain ⟨i0, hi, hz0, hz1, hz2⟩ := info_parts infoS
  have hown : (W.alloc (.cells #[.string d] 9)).ownsRow W.heap.size 9 1 (.slice (some ⟨W.heap.size, 0, none⟩) 1 1) 1 [.string d] := World.ownsRow_lit W #[.string d] 1 (Nat.le_refl _) (by decide) rfl
  have hb : Below W.heap.size W (W.alloc (.cells #[.string d] 9)) := (Below.refl _ _).alloc (Nat.le_refl _) _
  by_cases hna : ss = [] ∧ a = none
  · obtain ⟨rfl, rfl⟩ := hna
    refine ⟨_, _, _, append_nothing W.heap.size _ i0 hi _ 1 _ hown cap, ?_, hb⟩
    exact one_str W d _
  · obtain ⟨ad, rfl, hcells⟩ : ∃ ad, a = some ad ∧ ∀ j u, (ss.map Value.string)[j]? = some u → (W.alloc (.cells #[.string d] 9)).cell? (ad.add j) = some u := by
      rcases ha with rfl | ⟨b, off, rfl, h⟩
      · rcases a with _ | ad
        · exact absurd ⟨rfl, rfl⟩ hna
        · exact ⟨ad, rfl, fun j u hu => by simp at hu⟩
      · refine ⟨_, rfl, fun j u hu => ?_⟩
        rw [List.getElem?_map] at hu
        have hj : j < ss.length := by
          rcases Nat.lt_or_ge j ss.length with h1 | h1
          · exact h1
          · rw [List.getElem?_eq_none h1] at hu; cases hu
        have he : u = .string (ss.getD j ByteArray.empty) := by
          rw [List.getElem?_eq_getElem hj] at hu
          simp at hu
          rw [List.getD_eq_getElem?_getD, List.getElem?_eq_getElem hj]
          exact hu.symm
        have e : (⟨b, off, none⟩ : Addr).add j = ⟨b, off + j, none⟩ := by unfold Addr.add; split <;> simp_all
        rw [e, he]
        exact keep_alloc (h j hj)
    obtain ⟨v', w', hr, hown', hg, _, _⟩ := run_append_own_at (W.alloc (.cells #[.string d] 9)) W.heap.size 24 24 9 i0 (.string ⟨#[]⟩) 1 16 Tryd.underlying24 hi hz0 hz1 hz2 rfl (by decide) _ 1 _ hown ad ss.length cap (ss.map Value.string) (by simp) hcells
      (by intro u hu; obtain ⟨s, _, rfl⟩ := List.mem_map.1 hu; rfl) (by unfold maxLen; omega) (by omega) (by rw [World.size_alloc]; omega)
    have hl : [Value.string d] ++ ss.map Value.string = (d :: ss).map Value.string := by simp
    rw [hl] at hown'
    obtain ⟨a', c', rfl, hs⟩ := strs_of_own hown' (by simp; omega)
    refine ⟨a', c', w', hr, hs, hb.grown hg (by rw [World.size_alloc]; omega) (fun k hk => ?_)⟩
    have : k = W.heap.size := by simpa [Value.ownBlock] using hk.symm
    omega

/-- append at an operation, by its run. -/
theorem wp_append_run {P : Program} {o : Oper} {a : Act} {w : World} {K : Act → World → Prop} {Q : Exit → Act → World → Prop} (s x : Operand) (t : TypeId)
    (ho : o.op = .call { callee := .builtin .append, args := #[s, x], argTypes := #[t, t] }) (vs vx v' : Value) (w' : World) (hs : a.eval s = vs) (hx : a.eval x = vx)
    (hr : (Builtin.append_ #[t, t] o.type #[vs, vx]).run P w = .ok v' w') (h : K (a.put o.dst v') w') : o.wp P a w K Q := by
  unfold Oper.wp execOp
  simp only [ho, resolve, invoke, builtin, Sem.run_bind, Sem.run_pure, Result.andThen_ok, List.map_toArray, List.map_cons, List.map_nil, hs, hx, hr]
  exact h
end Go.Proofs.YtpfgdmjgeelobaaDoor
