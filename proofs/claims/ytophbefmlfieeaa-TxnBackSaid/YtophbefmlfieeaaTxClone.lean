/-
  THE CONTRACT OF slices.Clone of records.
-/
import Derived.Test.YtophbefmlfieeaaTxNotes
import Derived.Lib.SliceRun
namespace Go.Proofs.Ytophbefmlfieeaa
open Go.RowKit
theorem rcsC_one (l : List Rc) : ∀ u ∈ rcsC l, u.oneCell' = true := by
  intro u hu
  obtain ⟨y, _, hy⟩ := List.mem_flatMap.1 hu
  exact rcC_one y u hy
set_option maxRecDepth 100000 in
theorem clone_nil (W : World) : Calls Try.prog 50 #[.slice none 0 0] W fun x w' => x = .returned (.slice none 0 0) ∧ W = w' := by
  have qT : ∀ (w : World) (a : Option Addr) (n c n' c' : Nat), (binOp .eql 29 (.slice a n c) (.slice none n' c')).run Try.prog w = .ok (.bool a.isNone) w := fun w a n c n' c' => Lib.run_eql_slice_nil w _ _ a n c n' c' Try.underlying29
  go_enter Try.func50, Try.ntmps50
  go_wp2
  go_ret
  exact ⟨rfl, rfl⟩
theorem clone_end {W w9 : World} {v9 : Value} {l : List Rc} (hb1 : Below W.heap.size W (W.alloc (.cells #[] 38))) (r9 : RecR w9 W.heap.size v9 l) (r2 : (W.alloc (.cells #[] 38)).grownBy w9 (Value.slice (some ⟨W.heap.size, 0, none⟩) 0 0).ownBlock) (hv : v9 ≠ .slice none 0 0) : ∃ g c', v9 = .slice (some ⟨g, 0, none⟩) l.length c' ∧ RecR w9 W.heap.size v9 l ∧ Below W.heap.size W w9 := by
  have hbw : Below W.heap.size W w9 := ⟨r2.os.trans hb1.os, r2.tape.trans hb1.tape, r2.output.trans hb1.output, Nat.le_trans hb1.size r2.size, fun k hk => (r2.block k (Nat.lt_of_lt_of_le hk hb1.size) (fun e => by
    have : k = W.heap.size := by simpa [Value.ownBlock] using e
    omega)).trans (hb1.block k hk)⟩
  rcases r9.form with ⟨e, _⟩ | ⟨g, c', e, _⟩
  · exact absurd e hv
  · exact ⟨g, c', e, r9, hbw⟩
/-- append of any records. -/
theorem append_rcs {w : World} {ops : Array Oper} {rest : List Oper} {o : Oper} {a : Act} {Q : Exit → Act → World → Prop} (hgd : o.guard = none) (s x : Operand)
    (ho : o.op = .call { callee := .builtin .append, args := #[s, x], argTypes := #[29, 29] })
    (B : Nat) (v : Value) (l : List Rc) (ad : Addr) (y : List Rc) (c : Nat) (hs : a.eval s = v) (hown : RecR w B v l) (hx : a.eval x = .slice (some ad) y.length c) (hm : ∀ j u, (rcsC y)[j]? = some u → w.cell? (ad.add j) = some u) (h10 : l.length ≤ 100000) (h11 : y.length ≤ 100000) (hB : B ≤ w.heap.size) (hv : v ≠ .slice none 0 0)
    (h : ∀ v' w', RecR w' B v' (l ++ y) → w.grownBy w' v.ownBlock → v' ≠ .slice none 0 0 → wpList Try.prog ops Q rest (a.put o.dst v') w') :
    wpList Try.prog ops Q (o :: rest) a w := by
  obtain ⟨i0, hi, hzz⟩ := Option.map_eq_some_iff.1 infoRc
  simp only [Prod.mk.injEq] at hzz
  obtain ⟨hz0, hz1, hz2⟩ := hzz
  refine wpList_append_own_at _ hgd s x 29 ho B 38 i0 _ 11 112 Try.underlying29 hi hz0 hz1 hz2 rfl (by decide) v l.length (rcsC l) hs hown ad y.length c (rcsC y) hx (rcsC_len y) hm (rcsC_one y) (by unfold maxLen; omega) (by omega) hB (fun v' w' h1 h2 h3 _ => h v' w' ?_ h2 (fun e => hv (h3.1 e).1))
  unfold RecR
  rw [List.length_append, rcsC_append]; exact h1
set_option maxRecDepth 100000 in
theorem clone_some (ad : Addr) (l : List Rc) (c : Nat) (W : World) (hl : l.length ≤ 100000) (hm : ∀ j u, (rcsC l)[j]? = some u → W.cell? (ad.add j) = some u) :
    Calls Try.prog 50 #[.slice (some ad) l.length c] W fun x w' => ∃ g c', x = .returned (.slice (some ⟨g, 0, none⟩) l.length c') ∧ RecR w' W.heap.size (.slice (some ⟨g, 0, none⟩) l.length c') l ∧ Below W.heap.size W w' := by
  have qT : ∀ (w : World) (a : Option Addr) (n c n' c' : Nat), (binOp .eql 29 (.slice a n c) (.slice none n' c')).run Try.prog w = .ok (.bool a.isNone) w := fun w a n c n' c' => Lib.run_eql_slice_nil w _ _ a n c n' c' Try.underlying29
  have hb1 := (Below.refl W.heap.size W).alloc (Nat.le_refl _) (.cells #[] 38)
  have hown : RecR (W.alloc (.cells #[] 38)) W.heap.size (.slice (some ⟨W.heap.size, 0, none⟩) 0 0) [] :=
    ⟨rfl, .inr ⟨W.heap.size, 0, #[], rfl, Nat.le_refl _, by show (W.heap.push _)[W.heap.size]? = _; simp, Nat.le_refl _, Nat.zero_le _, rfl, rfl⟩⟩
  have HO := Lib.hid hown
  have HM : Hid (∀ j u, (rcsC l)[j]? = some u → (W.alloc (.cells #[] 38)).cell? (ad.add j) = some u) := fun j u h => keep_cell hb1 (hm j u h)
  have HB := Lib.hid hb1
  clear hm hown hb1
  go_enter Try.func50, Try.ntmps50
  go_wp2_with (at_builtin; refine append_rcs rfl _ _ rfl W.heap.size (.slice (some ⟨W.heap.size, 0, none⟩) 0 0) [] ad l c rfl HO.out rfl HM.out (by simp) hl HB.out.size (by simp) ?_)
  intro v9 w9 r9 hg9 hv9
  obtain ⟨g, c', rfl, h1, h2⟩ := clone_end HB.out r9 hg9 hv9
  clear r9 hg9 hv9
  go_wp2
  go_ret
  exact ⟨_, _, rfl, h1, h2⟩
end Go.Proofs.Ytophbefmlfieeaa
