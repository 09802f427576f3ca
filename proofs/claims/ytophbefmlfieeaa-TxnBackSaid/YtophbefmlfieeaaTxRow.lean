/-
  ROWS OF RECORDS, AND OF PLACES, of the call's own: what they hold, and one more behind.
-/
import Derived.Test.YtophbefmlfieeaaTxMap
import Derived.StillTailTactics
import Derived.Deep.RegionHeld3
import Derived.Laws.OwnMore
import Derived.Maps.AppendAt
import Derived.OwnWalk
import Derived.BigRegion
import Derived.Deep.Cut
import Derived.Deep.CutRange
import Derived.Deep.DeepCutAuto
import Derived.Deep.CutBlock
import Derived.BigQuiet
namespace Go.Proofs.Ytophbefmlfieeaa
open Go.RowKit
theorem below_drewN {w W : World} {B : Nat} (h : Below B w W) (n : Nat) : Below B w (W.drewN n) := ⟨h.os, h.tape, h.output, h.size, h.block⟩
theorem keepB {W W' : World} {B size n : Nat} {e : TypeId} {v : Value} {xs : List Value} (h : W.ownsRow B e size v n xs) (hb : Below W.heap.size W W') : W'.ownsRow B e size v n xs :=
  World.ownsRow.kept h (row := none) ⟨hb.os, hb.tape, hb.output, hb.size, fun k hk _ => hb.block k hk⟩ (by cases v.ownBlock with
    | none => exact .inl rfl
    | some k => exact .inr (fun e => by cases e))
def Rc.cells (r : Rc) : List Value := [.int .i64 r.k, .int .i64 r.g, .int .i64 r.t, .int .i64 r.p, .int .i64 r.pg, .string r.key, .bool r.hb, .string r.sb, .bool r.ha, .string r.sa, .int .i64 r.u]
def rcsC (l : List Rc) : List Value := l.flatMap Rc.cells
theorem rcsC_len : ∀ l : List Rc, (rcsC l).length = l.length * 11
  | [] => rfl
  | c :: l => by
    have := rcsC_len l
    unfold rcsC at this ⊢
    rw [List.flatMap_cons, List.length_append, this]
    show 11 + l.length * 11 = (l.length + 1) * 11
    omega
theorem rcsC_append (a b : List Rc) : rcsC (a ++ b) = rcsC a ++ rcsC b := by unfold rcsC; rw [List.flatMap_append]
theorem rcsC_get : ∀ (l : List Rc) (i j : Nat), i < l.length → j < 11 → (rcsC l)[i * 11 + j]? = (l.getD i noRc).cells[j]?
  | c :: l, 0, j, _, hj => by
    have e : rcsC (c :: l) = c.cells ++ rcsC l := rfl
    rw [e, Nat.zero_mul, Nat.zero_add, List.getElem?_append_left (show j < c.cells.length from hj)]; rfl
  | c :: l, i + 1, j, h, hj => by
    have ih := rcsC_get l i j (by simpa using h) hj
    have e : rcsC (c :: l) = c.cells ++ rcsC l := rfl
    have hl : c.cells.length = 11 := rfl
    rw [e, List.getElem?_append_right (by rw [hl]; omega), hl, show (i + 1) * 11 + j - 11 = i * 11 + j by omega]
    exact ih
/-- A row of records of the call's own. -/
def RecR (W : World) (B : Nat) (v : Value) (l : List Rc) : Prop := W.ownsRow B 38 11 v l.length (rcsC l)
theorem RecR.below {W W' : World} {B : Nat} {v : Value} {l : List Rc} (h : RecR W B v l) (hb : Below W.heap.size W W') : RecR W' B v l := keepB h hb
theorem RecR.cell {W : World} {B : Nat} {g cap : Nat} {l : List Rc} (h : RecR W B (.slice (some ⟨g, 0, none⟩) l.length cap) l) (i j : Nat) (hi : i < l.length) (hj : j < 11) (u : Value) (hu : (l.getD i noRc).cells[j]? = some u) : W.cell? ⟨g, i * 11 + j, none⟩ = some u := by
  rw [World.ownsRow.cellAt h (i * 11 + j) (by omega), rcsC_get l i j hi hj]; exact hu
theorem RecR.form {W : World} {B : Nat} {v : Value} {l : List Rc} (h : RecR W B v l) : (v = .slice none 0 0 ∧ l = []) ∨ ∃ g c, v = .slice (some ⟨g, 0, none⟩) l.length c ∧ l.length ≤ c ∧ B ≤ g ∧ g < W.heap.size := by
  rcases h.2 with ⟨hv, hz⟩ | ⟨g, cap, cur, hv, hb, hg, hnc, r⟩
  · exact .inl ⟨hv, List.length_eq_zero_iff.1 hz⟩
  · exact .inr ⟨g, cap, hv, hnc, hb, (Array.getElem?_eq_some_iff.1 hg).1⟩
theorem RecR.rcs {W : World} {B : Nat} {g cap : Nat} {l : List Rc} (h : RecR W B (.slice (some ⟨g, 0, none⟩) l.length cap) l) : RcsAt W (some ⟨g, 0, none⟩) l :=
  .inr ⟨g, 0, rfl, fun i hi => by
    simp only [Nat.zero_add]
    exact ⟨h.cell i 0 hi (by omega) _ rfl, h.cell i 1 hi (by omega) _ rfl, h.cell i 2 hi (by omega) _ rfl, h.cell i 3 hi (by omega) _ rfl, h.cell i 4 hi (by omega) _ rfl, h.cell i 5 hi (by omega) _ rfl, h.cell i 6 hi (by omega) _ rfl, h.cell i 7 hi (by omega) _ rfl, h.cell i 8 hi (by omega) _ rfl, h.cell i 9 hi (by omega) _ rfl, h.cell i 10 hi (by omega) _ rfl⟩⟩
theorem infoRc : (Try.prog.info? 38).map (fun i => (i.zero, i.size, i.bytes)) = some (some (.agg #[.int .i64 0, .int .i64 0, .int .i64 0, .int .i64 0, .int .i64 0, .string ⟨#[]⟩, .bool false, .string ⟨#[]⟩, .bool false, .string ⟨#[]⟩, .int .i64 0]), 11, 112) := by kernel_rfl
theorem rcC_one (y : Rc) : ∀ u ∈ y.cells, u.oneCell' = true := by
  intro u hu
  unfold Rc.cells at hu
  simp at hu
  rcases hu with rfl | rfl | rfl | rfl | rfl | rfl | rfl | rfl | rfl | rfl | rfl <;> rfl
/-- append of one record, as a step of a region that draws. -/
theorem step_append_rc {ops : Array Oper} {o : Oper} {a : Act} {w : World} {K : Act → World → Prop} {Q : Exit → Act → World → Prop} {E : Prop}
    (hg : o.guard = none) (s x : Operand) (hop : o.op = Op.call { callee := Callee.builtin Builtin.append, args := #[s, x], argTypes := #[29, 29] })
    (B : Nat) (v : Value) (l : List Rc) (ad : Addr) (y : Rc) (c : Nat) (hs : a.eval s = v) (hown : RecR w B v l) (hx : a.eval x = .slice (some ad) 1 c) (hm : ∀ j u, y.cells[j]? = some u → w.cell? (ad.add j) = some u) (h10 : l.length ≤ 100000) (hB : B ≤ w.heap.size)
    (hK : ∀ v' w', RecR w' B v' (l ++ [y]) → w.grownBy w' v.ownBlock → (v'.ownBlock = v.ownBlock ∨ v'.ownBlock = some w.heap.size) → K (a.put o.dst v') w') :
    if Region.wanted o (yielded ops a.tmps) = true then Oper.wp Try.prog o a w K Q else E := by
  have hw : Region.wanted o (yielded ops a.tmps) = true := by simp [Region.wanted, hg]
  rw [if_pos hw]
  obtain ⟨i0, hi, hzz⟩ := Option.map_eq_some_iff.1 infoRc
  simp only [Prod.mk.injEq] at hzz
  obtain ⟨hz0, hz1, hz2⟩ := hzz
  obtain ⟨v', w', hrun, r1, r2, _, r4⟩ := run_append_own_at (P := Try.prog) w B 29 o.type 38 i0 _ 11 112 Try.underlying29 hi hz0 hz1 hz2 rfl (by decide) v l.length (rcsC l) hown ad 1 c y.cells rfl hm (rcC_one y) (by unfold maxLen; omega) (by omega) hB
  unfold Oper.wp
  simp [execOp, hop, resolve, invoke, builtin, hs, hx, hrun, Result.andThen]
  refine hK v' w' ?_ r2 r4
  unfold RecR
  rw [List.length_append, rcsC_append]
  have e : rcsC [y] = y.cells := by simp [rcsC]
  rw [e]
  exact r1
/-- Places. -/
abbrev Plc := Int × Int
def noPl : Plc := (0, 0)
def plcC (l : List Plc) : List Value := l.flatMap fun p => [.int .i64 p.1, .int .i64 p.2]
theorem plcC_len : ∀ l : List Plc, (plcC l).length = l.length * 2
  | [] => rfl
  | c :: l => by
    have := plcC_len l
    unfold plcC at this ⊢
    rw [List.flatMap_cons, List.length_append, this]
    show 2 + l.length * 2 = (l.length + 1) * 2
    omega
theorem plcC_append (a b : List Plc) : plcC (a ++ b) = plcC a ++ plcC b := by unfold plcC; rw [List.flatMap_append]
theorem plcC_get : ∀ (l : List Plc) (i : Nat), i < l.length → (plcC l)[i * 2]? = some (.int .i64 (l.getD i noPl).1) ∧ (plcC l)[i * 2 + 1]? = some (.int .i64 (l.getD i noPl).2)
  | c :: l, 0, _ => ⟨rfl, rfl⟩
  | c :: l, i + 1, h => by
    have ih := plcC_get l i (by simpa using h)
    have e : plcC (c :: l) = .int .i64 c.1 :: .int .i64 c.2 :: plcC l := rfl
    have e2 : (i + 1) * 2 = i * 2 + 1 + 1 := by omega
    rw [e, e2, List.getElem?_cons_succ, List.getElem?_cons_succ, List.getElem?_cons_succ, List.getElem?_cons_succ]
    exact ih
def PlcR (W : World) (B : Nat) (v : Value) (l : List Plc) : Prop := W.ownsRow B 60 2 v l.length (plcC l)
theorem PlcR.below {W W' : World} {B : Nat} {v : Value} {l : List Plc} (h : PlcR W B v l) (hb : Below W.heap.size W W') : PlcR W' B v l := keepB h hb
theorem PlcR.cell {W : World} {B : Nat} {g cap : Nat} {l : List Plc} (h : PlcR W B (.slice (some ⟨g, 0, none⟩) l.length cap) l) (i : Nat) (hi : i < l.length) : W.cell? ⟨g, i * 2, none⟩ = some (.int .i64 (l.getD i noPl).1) ∧ W.cell? ⟨g, i * 2 + 1, none⟩ = some (.int .i64 (l.getD i noPl).2) := by
  rw [World.ownsRow.cellAt h (i * 2) (by omega), World.ownsRow.cellAt h (i * 2 + 1) (by omega)]; exact plcC_get l i hi
theorem PlcR.form {W : World} {B : Nat} {v : Value} {l : List Plc} (h : PlcR W B v l) : (v = .slice none 0 0 ∧ l = []) ∨ ∃ g c, v = .slice (some ⟨g, 0, none⟩) l.length c ∧ l.length ≤ c ∧ B ≤ g ∧ g < W.heap.size := by
  rcases h.2 with ⟨hv, hz⟩ | ⟨g, cap, cur, hv, hb, hg, hnc, r⟩
  · exact .inl ⟨hv, List.length_eq_zero_iff.1 hz⟩
  · exact .inr ⟨g, cap, hv, hnc, hb, (Array.getElem?_eq_some_iff.1 hg).1⟩
theorem infoPl : (Try.prog.info? 60).map (fun i => (i.zero, i.size, i.bytes)) = some (some (.agg #[.int .i64 0, .int .i64 0]), 2, 16) := by kernel_rfl
theorem step_append_pl {ops : Array Oper} {o : Oper} {a : Act} {w : World} {K : Act → World → Prop} {Q : Exit → Act → World → Prop} {E : Prop}
    (hg : o.guard = none) (s x : Operand) (hop : o.op = Op.call { callee := Callee.builtin Builtin.append, args := #[s, x], argTypes := #[54, 54] })
    (B : Nat) (v : Value) (l : List Plc) (ad : Addr) (y : Plc) (c : Nat) (hs : a.eval s = v) (hown : PlcR w B v l) (hx : a.eval x = .slice (some ad) 1 c) (hm : ∀ j u, ([.int .i64 y.1, .int .i64 y.2] : List Value)[j]? = some u → w.cell? (ad.add j) = some u) (h10 : l.length ≤ 100000) (hB : B ≤ w.heap.size)
    (hK : ∀ v' w', PlcR w' B v' (l ++ [y]) → w.grownBy w' v.ownBlock → (v'.ownBlock = v.ownBlock ∨ v'.ownBlock = some w.heap.size) → K (a.put o.dst v') w') :
    if Region.wanted o (yielded ops a.tmps) = true then Oper.wp Try.prog o a w K Q else E := by
  have hw : Region.wanted o (yielded ops a.tmps) = true := by simp [Region.wanted, hg]
  rw [if_pos hw]
  obtain ⟨i0, hi, hzz⟩ := Option.map_eq_some_iff.1 infoPl
  simp only [Prod.mk.injEq] at hzz
  obtain ⟨hz0, hz1, hz2⟩ := hzz
  obtain ⟨v', w', hrun, r1, r2, _, r4⟩ := run_append_own_at (P := Try.prog) w B 54 o.type 60 i0 _ 2 16 Try.underlying54 hi hz0 hz1 hz2 rfl (by decide) v l.length (plcC l) hown ad 1 c [.int .i64 y.1, .int .i64 y.2] rfl hm (by intro u hu; simp at hu; rcases hu with rfl | rfl <;> rfl) (by unfold maxLen; omega) (by omega) hB
  unfold Oper.wp
  simp [execOp, hop, resolve, invoke, builtin, hs, hx, hrun, Result.andThen]
  refine hK v' w' ?_ r2 r4
  unfold PlcR
  rw [List.length_append, plcC_append]
  have e : plcC [y] = [.int .i64 y.1, .int .i64 y.2] := by simp [plcC]
  rw [e]
  exact r1
end Go.Proofs.Ytophbefmlfieeaa
