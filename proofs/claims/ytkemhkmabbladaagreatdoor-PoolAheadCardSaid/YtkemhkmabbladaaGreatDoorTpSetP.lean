/-
  WHAT IS NEEDED OF THE DEVICE'S TEXTS, AS FAR AS THIS SEAT HAS ITS FUNCTIONS (put together by wip/only-there.py).
-/
import Derived.Test.YtkemhkmabbladaaGreatDoorTpRight
import Derived.StillTailTactics
import Derived.Deep.RegionHeld3
import Derived.Laws.OwnMore
import Derived.Maps.AppendAt
import Derived.OwnWalk
import Derived.Deep.Cut
import Derived.Deep.CutRange
import Derived.Deep.DeepCutAuto
import Derived.Deep.CutBlock
import Derived.BigRegion
namespace Go.Proofs.YtkemhkmabbladaaGreatDoor
open Go.RowKit
def clC (c : ByteArray × ByteArray) : List Value := [.string c.1, .string c.2]
def clsC (l : List (ByteArray × ByteArray)) : List Value := l.flatMap clC
theorem clsC_len : ∀ l : List (ByteArray × ByteArray), (clsC l).length = l.length * 2
  | [] => rfl
  | c :: l => by
    have := clsC_len l
    unfold clsC at this ⊢
    rw [List.flatMap_cons, List.length_append, this]
    show 2 + l.length * 2 = (l.length + 1) * 2
    omega
theorem clsC_append (a b : List (ByteArray × ByteArray)) : clsC (a ++ b) = clsC a ++ clsC b := by unfold clsC; rw [List.flatMap_append]
theorem clsC_get : ∀ (l : List (ByteArray × ByteArray)) (i : Nat), i < l.length → (clsC l)[i * 2]? = some (.string (l.getD i noCl).1) ∧ (clsC l)[i * 2 + 1]? = some (.string (l.getD i noCl).2)
  | c :: l, 0, _ => ⟨rfl, rfl⟩
  | c :: l, i + 1, h => by
    have ih := clsC_get l i (by simpa using h)
    have e : clsC (c :: l) = .string c.1 :: .string c.2 :: clsC l := rfl
    have e2 : (i + 1) * 2 = i * 2 + 1 + 1 := by omega
    rw [e, e2, List.getElem?_cons_succ, List.getElem?_cons_succ, List.getElem?_cons_succ, List.getElem?_cons_succ]
    exact ih
/-- A row of cells of the call's own. -/
def RowC (W : World) (B : Nat) (v : Value) (l : List (ByteArray × ByteArray)) : Prop := W.ownsRow B 89 2 v l.length (clsC l)
theorem RowC.below {W W' : World} {B : Nat} {v : Value} {l : List (ByteArray × ByteArray)} (h : RowC W B v l) (hb : Below W.heap.size W W') : RowC W' B v l :=
  World.ownsRow.kept h (row := none) ⟨hb.os, hb.tape, hb.output, hb.size, fun k hk _ => hb.block k hk⟩ (by cases v.ownBlock with
    | none => exact .inl rfl
    | some k => exact .inr (fun e => by cases e))
theorem RowC.cls {W : World} {B : Nat} {v : Value} {l : List (ByteArray × ByteArray)} (h : RowC W B v l) : ∃ a c, v = .slice a l.length c ∧ ClsAt W a l ∧ (a = Option.none → c = 0) ∧ l.length ≤ c := by
  rcases h.2 with ⟨hv, hz⟩ | ⟨g, cap, cur, hv, hb, hg, hnc, r⟩
  · refine ⟨Option.none, 0, by rw [hv, hz], .inl (List.length_eq_zero_iff.1 hz), fun _ => rfl, by omega⟩
  · subst hv
    refine ⟨_, cap, rfl, .inr ⟨g, 0, rfl, fun i hi => ?_⟩, (fun e => by cases e), hnc⟩
    obtain ⟨h1, h2⟩ := clsC_get l i hi
    rw [Nat.zero_add, World.ownsRow.cellAt h (i * 2) (by omega), World.ownsRow.cellAt h (i * 2 + 1) (by omega)]
    exact ⟨h1, h2⟩
theorem infoC : (Tryz.prog.info? 89).map (fun i => (i.zero, i.size, i.bytes)) = some (some (.agg #[.string ⟨#[]⟩, .string ⟨#[]⟩]), 2, 32) := by kernel_rfl
theorem cls_one : ∀ l : List (ByteArray × ByteArray), ∀ u ∈ clsC l, u.oneCell' = true := by
  intro l u hu
  unfold clsC at hu
  rw [List.mem_flatMap] at hu
  obtain ⟨c, _, hc⟩ := hu
  unfold clC at hc
  simp at hc
  rcases hc with rfl | rfl <;> rfl
/-- append of a slice of cells. -/
theorem append_cls {W0 : World} {ops : Array Oper} {rest : List Oper} {o : Oper} {a : Act} {Q : Exit → Act → World → Prop} (hgd : o.guard = none) (s x : Operand)
    (ho : o.op = .call { callee := .builtin .append, args := #[s, x], argTypes := #[34, 34] })
    (B : Nat) (v : Value) (l : List (ByteArray × ByteArray)) (b : Option Addr) (m : List (ByteArray × ByteArray)) (c : Nat) (hs : a.eval s = v) (hown : RowC W0 B v l) (hx : a.eval x = .slice b m.length c) (hm : ClsAt W0 b m) (h0 : b = none → c = 0) (h10 : l.length ≤ 1000) (h11 : m.length ≤ 1000) (hB : B ≤ W0.heap.size)
    (h : ∀ v' w', RowC w' B v' (l ++ m) → W0.grownBy w' v.ownBlock → wpList Tryz.prog ops Q rest (a.put o.dst v') w') :
    wpList Tryz.prog ops Q (o :: rest) a W0 := by
  obtain ⟨i0, hi, hzz⟩ := Option.map_eq_some_iff.1 infoC
  simp only [Prod.mk.injEq] at hzz
  obtain ⟨hz0, hz1, hz2⟩ := hzz
  have main : ∀ (ad : Addr), b = some ad → (∀ j u, (clsC m)[j]? = some u → W0.cell? (ad.add j) = some u) → wpList Tryz.prog ops Q (o :: rest) a W0 := fun ad e hc => by
    subst e
    refine wpList_append_own_at _ hgd s x 34 ho B 89 i0 _ 2 32 Tryz.underlying34 hi hz0 hz1 hz2 rfl (by decide) v l.length (clsC l) hs hown ad m.length c (clsC m) hx (clsC_len m) hc (cls_one m) (by unfold maxLen; omega) (by omega) hB (fun v' w' h1 h2 _ _ => h v' w' ?_ h2)
    unfold RowC
    rw [List.length_append, clsC_append]; exact h1
  rcases hm with rfl | ⟨bb, off, e, hc⟩
  · cases b with
    | some ad => exact main ad rfl (fun j u hj => by cases hj)
    | none =>
      have hc0 := h0 rfl
      subst hc0
      refine wpList_plain hgd fun K hK => ?_
      have hr := run_append_owned_none (P := Tryz.prog) (w := W0) B 34 o.type 89 i0 2 Tryz.underlying34 hi v l.length (clsC l) hown
      unfold Oper.wp execOp
      simp only [ho, resolve, invoke, builtin, Sem.run_bind, Sem.run_pure, Result.andThen_ok, List.map_toArray, List.map_cons, List.map_nil, hs, hx]
      have hx2 : (Value.slice none ([] : List (ByteArray × ByteArray)).length 0) = Value.slice none 0 0 := rfl
      rw [hx2, hr]
      exact hK _ _ (h v W0 (by rw [List.append_nil]; exact hown) (World.grownBy.refl _ _))
  · subst e
    refine main _ rfl (fun j u hj => ?_)
    have hjl : j < m.length * 2 := by
      have := (List.getElem?_eq_some_iff.1 hj).1
      rw [clsC_len] at this; exact this
    have ea : (⟨bb, off, none⟩ : Addr).add j = ⟨bb, off + j, none⟩ := by unfold Addr.add; split <;> simp_all
    rw [ea]
    obtain ⟨g1, g2⟩ := clsC_get m (j / 2) (by omega)
    obtain ⟨k1, k2⟩ := hc (j / 2) (by omega)
    rcases Nat.mod_two_eq_zero_or_one j with hp | hp
    · have e1 : j / 2 * 2 = j := by omega
      rw [e1] at g1 k1
      rw [hj] at g1
      rw [k1]; exact g1.symm
    · have e1 : j / 2 * 2 + 1 = j := by omega
      rw [e1] at g2
      rw [Nat.add_assoc, e1] at k2
      rw [hj] at g2
      rw [k2]; exact g2.symm
/-- A slice of cells. -/
structure Sl where
  a : Option Addr
  l : List (ByteArray × ByteArray)
  c : Nat
def noSl : Sl := ⟨none, [], 0⟩
structure SlOk (W : World) (T k : Nat) (x : Sl) : Prop where
  c : W.cell? ⟨T, k, none⟩ = some (.slice x.a x.l.length x.c)
  m : ClsAt W x.a x.l
  z : x.a = none → x.c = 0
  n : x.l.length ≤ 100
def joinS (S : List Sl) : List (ByteArray × ByteArray) := S.flatMap (·.l)
theorem joinS_succ (S : List Sl) (k : Nat) (h : k < S.length) : joinS (S.take (k + 1)) = joinS (S.take k) ++ (S.getD k noSl).l := by
  unfold joinS
  rw [List.take_succ_eq_append_getElem h, List.flatMap_append, List.getD_eq_getElem?_getD, List.getElem?_eq_getElem h]
  simp
theorem joinS_len (S : List Sl) (h : ∀ x ∈ S, x.l.length ≤ 100) : (joinS S).length ≤ S.length * 100 := by
  induction S with
  | nil => exact Nat.le_refl _
  | cons x S ih =>
    have h1 := h x List.mem_cons_self
    have h2 := ih (fun y hy => h y (List.mem_cons_of_mem _ hy))
    unfold joinS at h2 ⊢
    rw [List.flatMap_cons, List.length_append, List.length_cons]; omega
theorem grown_cell (W : World) (b i : Nat) (v : Value) : W.grownBy (W.setCell ⟨b, i, none⟩ v) (some b) := ⟨rfl, rfl, rfl, by simp, fun k _ hk => heap_setCell_other W ⟨b, i, none⟩ k v (fun e => hk (by simp [e]))⟩
theorem set3 {W w : World} {R B : Nat} {u0 u1 u2 v0 v1 v2 : Value} (hb : Below B w W) (hB : B ≤ R) (c0 : W.cell? ⟨R, 0, none⟩ = some u0) (c1 : W.cell? ⟨R, 1, none⟩ = some u1) (c2 : W.cell? ⟨R, 2, none⟩ = some u2) :
    ∃ X, X = ((W.setCell ⟨R, 0, none⟩ v0).setCell ⟨R, 1, none⟩ v1).setCell ⟨R, 2, none⟩ v2 ∧ X.cell? ⟨R, 0, none⟩ = some v0 ∧ X.cell? ⟨R, 1, none⟩ = some v1 ∧ X.cell? ⟨R, 2, none⟩ = some v2 ∧ Below B w X ∧ W.grownBy X (some R) := by
  obtain ⟨Y, hY, y0, y1, hbY⟩ := set2 (v0 := v0) (v1 := v1) hb hB c0 c1
  have n02 : (⟨R, 2, none⟩ : Addr) ≠ ⟨R, 0, none⟩ := fun e => by injection e with _ e; cases e
  have n12 : (⟨R, 2, none⟩ : Addr) ≠ ⟨R, 1, none⟩ := fun e => by injection e with _ e; cases e
  have d2 : Y.cell? ⟨R, 2, none⟩ = some u2 := by
    rw [hY, World.cell?_setCell_other _ _ _ _ (fun e => n12 e.symm), World.cell?_setCell_other _ _ _ _ (fun e => n02 e.symm)]; exact c2
  refine ⟨_, rfl, ?_, ?_, ?_, ?_, ?_⟩
  · rw [← hY, World.cell?_setCell_other _ _ _ _ n02]; exact y0
  · rw [← hY, World.cell?_setCell_other _ _ _ _ n12]; exact y1
  · rw [← hY]; exact World.cell?_setCell_same _ _ _ d2
  · rw [← hY]; exact hbY.setCell hB _
  · exact ((grown_cell W R 0 v0).trans (grown_cell _ R 1 v1)).trans (grown_cell _ R 2 v2)
theorem pgOk_parts {no gsn : Int} {l : List (ByteArray × ByteArray)} (h : pgOk no gsn l = true) : 0 ≤ no ∧ no < 64 ∧ 0 ≤ gsn ∧ gsn ≤ 4611686018427387903 ∧ l.length ≤ 8 ∧ cellsB l = true := by
  unfold pgOk at h
  simp only [Bool.and_eq_true, decide_eq_true_iff] at h
  obtain ⟨⟨⟨⟨⟨a, b⟩, c⟩, d⟩, e⟩, f⟩ := h
  exact ⟨a, b, c, d, e, f⟩
end Go.Proofs.YtkemhkmabbladaaGreatDoor
