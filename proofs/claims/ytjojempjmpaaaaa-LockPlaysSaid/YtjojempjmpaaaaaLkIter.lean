/-
  THE RANGE OF A MAP THAT MAY BE NIL.
-/
import Derived.Test.YtjojempjmpaaaaaLkPassG
namespace Go.Proofs.Ytjojempjmpaaaaa
open Go.RowKit Go.Maps Go.ChangeMaps Go.MapKept Go.WideElems Go.WideMaps
/-- An iterator over a map of pointers by texts, or over none. -/
def It (W : World) (mo : Option Nat) (R n : Nat) (D0 : DataW Unit) (lf : Lit → Bool) (cnt : Nat) : Prop :=
  match mo with
  | some m => W.ranges Try.prog 9 (rdB pV (H := Unit)) m R n D0 lf cnt
  | none => W.heap[R]? = some (.mapIter none 0 #[] 0) ∧ lf = (fun _ => false) ∧ cnt = 0
section
variable {W X : World} {mo : Option Nat} {R n : Nat} {D0 : DataW Unit} {lf : Lit → Bool} {cnt : Nat}
theorem It.keep (h : It W mo R n D0 lf cnt) (hm : ∀ m, mo = some m → X.heap[m]? = W.heap[m]?) (hr : X.heap[R]? = W.heap[R]?) : It X mo R n D0 lf cnt := by
  cases mo with
  | some m => exact ranges_blocks h (hm m rfl) hr
  | none => exact ⟨hr.trans h.1, h.2⟩
theorem It.lt (h : It W mo R n D0 lf cnt) : R < W.heap.size := by
  cases mo with
  | some m => exact World.ranges.lt h
  | none => exact (Array.getElem?_eq_some_iff.1 h.1).1
theorem It.no_cell (h : It W mo R n D0 lf cnt) (i : Nat) : W.cell? ⟨R, i, none⟩ = none := by
  cases mo with
  | some m => exact iter_cell h i
  | none => simp [World.cell?, h.1]
theorem It.left {m : Nat} (h : It W (some m) R n D0 lf cnt) : W.rangeLeft m R = cnt := by
  unfold It at h
  exact h.left_eq
end
def lf0 (mo : Option Nat) (D : DataW Unit) : Lit → Bool := fun z => match mo with
  | some _ => has D z
  | none => false
def cnt0 (mo : Option Nat) (D : DataW Unit) : Nat := match mo with
  | some _ => Maps.size D
  | none => 0
section
variable (w : World) {ops : Array Oper} {rest : List Oper} {o : Oper} {a : Act} {Q : Exit → Act → World → Prop}
theorem wpList_range_u (hg : o.guard = none) (m : Operand) (t : TypeId) (hop : o.op = Op.range t m) (e : TypeId) (ht : Try.prog.underlying t = some (.map 9 e)) (mo : Option Nat) (n : Nat) (D : DataW Unit)
    (hm : a.eval m = mV mo) (hown : ∀ b, mo = some b → w.ownsMap Try.prog 9 (rdB pV (H := Unit)) b n D)
    (hK : ∀ w', It w' mo w.heap.size n D (lf0 mo D) (cnt0 mo D) → w.grownBy w' none → w'.heap.size = w.heap.size + 1 → wpList Try.prog ops Q rest (a.put o.dst (.pointer (some ⟨w.heap.size, 0, none⟩))) w') :
    wpList Try.prog ops Q (o :: rest) a w := by
  cases mo with
  | some b => exact wpList_range_own w hg m t hop 9 e (string_keyed Try.underlying9) ht (rdB pV (H := Unit)) b n D hm (hown b rfl) hK
  | none =>
    refine wpList_plain hg fun K' hK' => ?_
    have hrun := run_range_nilMap (P := Try.prog) w t 9 e ht
    have hm' : a.eval m = .map none := hm
    unfold Oper.wp
    simp [execOp, hop, hm', hrun, Result.andThen]
    exact hK' _ _ (hK _ ⟨(heap_alloc w _).1, rfl, rfl⟩ (World.grownBy_alloc w _ none) (by simp))
theorem wpList_next_u (hg : o.guard = none) (it : Operand) (hop : o.op = Op.next it false) (mo : Option Nat) (r n : Nat) (D : DataW Unit) (left : Lit → Bool) (cnt : Nat)
    (hit : a.eval it = .pointer (some ⟨r, 0, none⟩)) (h : It w mo r n D left cnt)
    (hDone : cnt = 0 → (∀ kl, left kl = false) → wpList Try.prog ops Q rest (a.put o.dst (.tuple #[.bool false])) w)
    (hMore : ∀ (m : Nat) (x : ByteArray) (c : Option Nat) (w' : World) (cnt' : Nat), mo = some m → left (.string x.data.toList) = true → (∀ zd, D.atKey (.string x.data.toList) zd = .lit (.int .i64 (encF c))) → It w' mo r n D (fun z => left z && !z.sameKey (.string x.data.toList)) cnt' → cnt' < cnt →
      w.grownBy w' (some r) → w'.heap.size = w.heap.size → w.rangeLeft m r = cnt → w'.rangeLeft m r = cnt' → (Instr.entry (.pointer (some ⟨r, 0, none⟩))).run Try.prog w' = .ok (.tuple #[.string x, pV c]) w' → wpList Try.prog ops Q rest (a.put o.dst (.tuple #[.bool true, .string x, pV c])) w') :
    wpList Try.prog ops Q (o :: rest) a w := by
  cases mo with
  | some b =>
    refine wpList_next_ranges w hg it hop 9 (string_keyed Try.underlying9) (rdB pV (H := Unit)) Value.string pV (fun key kl hkey => by obtain ⟨x, rfl, _⟩ := key_str hkey; exact ⟨x, rfl⟩) (fun v y hv => by obtain ⟨c, rfl, _⟩ := rdB_inv hv; exact ⟨c, rfl⟩) b r n D left cnt hit h hDone (fun x c kl y w' cnt' hkey hlk hv hat hrg hlt hgr hsz hen => ?_)
    obtain ⟨x', ex, rfl⟩ := key_str hkey
    injection ex with ex
    subst ex
    obtain ⟨c', ec, ey⟩ := rdB_inv hv
    obtain rfl := pV_inj ec
    exact hMore b x c w' cnt' rfl hlk (fun zd => by rw [hat zd, ey]) hrg hlt hgr hsz h.left_eq hrg.left_eq hen
  | none =>
    refine wpList_plain hg fun K' hK' => ?_
    have hrun : (Instr.next (.pointer (some ⟨r, 0, none⟩)) false o.type).run Try.prog w = .ok (.tuple #[.bool false]) w := by
      simp only [Instr.next, getObj, Sem.run_bind, Sem.run, h.1, Result.andThen]
      rfl
    unfold Oper.wp
    simp [execOp, hop, hit, hrun, Result.andThen]
    exact hK' _ _ (hDone h.2.2 (fun kl => by rw [h.2.1]))
end
end Go.Proofs.Ytjojempjmpaaaaa
