/-
  A SECTOR THAT IS MADE TO LAST: the pure part, and the region of it.
-/
import Derived.Test.YtobgopiadfinbaaDvRead
import Derived.StillTailTactics
import Derived.Deep.RegionHeld3
namespace Go.Proofs.Ytobgopiadfinbaa
open Go.RowKit

theorem las_set {las : List (List UInt8)} {j : Nat} {l : List UInt8} (h64 : ∀ x ∈ las, x.length = 64) (hj : j < las.length) :
    lasC (las.set j l) = (lasC las).take (j * 64) ++ secC l ++ (lasC las).drop (j * 64 + 64) := by
  have hs : las = las.take j ++ (las[j] :: las.drop (j + 1)) := by simp
  have ht : (lasC (las.take j)).length = j * 64 := by
    rw [lasC_len (fun x hx => h64 x (List.mem_of_mem_take hx)), List.length_take, Nat.min_eq_left (by omega)]; omega
  have hx : (secC las[j]).length = 64 := by rw [secC_len]; exact h64 _ (List.getElem_mem hj)
  have hc : lasC las = lasC (las.take j) ++ (secC las[j] ++ lasC (las.drop (j + 1))) := by
    conv => lhs; rw [hs]
    unfold lasC
    rw [List.flatMap_append, List.flatMap_cons]
  have hset : las.set j l = las.take j ++ (l :: las.drop (j + 1)) := List.set_eq_take_append_cons_drop.trans (by rw [if_pos hj])
  rw [hset, hc]
  have e1 : (lasC (las.take j) ++ (secC las[j] ++ lasC (las.drop (j + 1)))).take (j * 64) = lasC (las.take j) := by rw [← ht, List.take_left]
  have e2 : (lasC (las.take j) ++ (secC las[j] ++ lasC (las.drop (j + 1)))).drop (j * 64 + 64) = lasC (las.drop (j + 1)) := by
    rw [← List.append_assoc, List.drop_append_of_le_length (by rw [List.length_append]; omega), List.drop_of_length_le (by rw [List.length_append]; omega)]
    rfl
  rw [e1, e2]
  unfold lasC
  rw [List.flatMap_append, List.flatMap_cons, List.append_assoc]
section
variable {W : World} {D P L M n k : Nat} {off : Bool} {uses : Int} {armed : Bool} {left : Int} {las : List (List UInt8)} {f : Int → Option (List UInt8)}
theorem setRow_grown (W : World) (g : Nat) (cs : Array Value) : W.grownBy (W.setRow g cs) (some g) :=
  ⟨rfl, rfl, rfl, by show W.heap.size ≤ (W.heap.modify g _).size; rw [Array.size_modify]; exact Nat.le_refl _, fun k _ hk => setRow_old (fun e => hk (by rw [e]))⟩
theorem DevAt.setLas (h : DevAt W D P L M n k off uses armed left las f) (j : Nat) (l : List UInt8) (hl : l.length = 64) : DevAt (W.setRow L (lasC (las.set j l)).toArray) D P L M n k off uses armed left (las.set j l) f :=
  have hg := setRow_grown W L (lasC (las.set j l)).toArray
  { d0 := cell_apart hg h.dl h.d0, d1 := cell_apart hg h.dl h.d1, d2 := cell_apart hg h.dl h.d2, p0 := cell_apart hg h.pl h.p0, p1 := cell_apart hg h.pl h.p1, p2 := cell_apart hg h.pl h.p2, p3 := cell_apart hg h.pl h.p3,
    pf := fun i => (World.frozen?_of_block (hg.block P (block_lt (p := ⟨P, 0, none⟩) h.p0) (by simpa using h.pl))).trans (h.pf i),
    lb := setRow_heap _ _ _ _ _ _ h.lb, ll := by rw [List.length_set]; exact h.ll,
    l64 := fun x hx => by
      rcases List.mem_or_eq_of_mem_set hx with h' | h'
      · exact h.l64 x h'
      · rw [h']; exact hl
    mp := h.mp.kept hg (by simpa using h.lm.symm), dp := h.dp, dl := h.dl, dm := h.dm, pl := h.pl, pm := h.pm, lm := h.lm }
theorem DevAt.store (h : DevAt W D P L M n k off uses armed left las f) (j : Nat) (hj : j < n) (l : List UInt8) (hl : l.length = 64) :
    (storeVar 66 ⟨L, j * 64, none⟩ (.agg (secC l).toArray)).run Try.prog W = .ok () (W.setRow L (lasC (las.set j l)).toArray) := by
  have hz : (lasC las).toArray.size = 64 * n := by rw [List.size_toArray, lasC_len h.l64, h.ll]
  have hst := run_storeCells_at Try.prog L (j * 64) 66 (secC l) 0 _ W h.lb (by rw [hz, secC_len, hl]; omega) (Lib.byteCells_one l)
  rw [secC_len, hl, Nat.add_zero] at hst
  have hi : (Try.prog.info? 66).map (·.size) = some 64 := (zero_of_info infoK).2
  cases hq : Try.prog.info? 66 with
  | none => simp [hq] at hi
  | some i =>
    have hs : i.size = 64 := by simpa [hq] using hi
    have hcs : (secC l).toArray.size = 64 := by rw [List.size_toArray, secC_len, hl]
    rw [las_set h.l64 (by rw [h.ll]; exact hj)]
    simp [storeVar, sizeOf, typeInfo, hq, Value.cells, hs, hcs] at hst ⊢
    exact hst
theorem again_any (h : DevAt W D P L M n k off uses armed left las f) :
    Calls Try.prog 33 #[.pointer (some ⟨P, 0, none⟩)] W fun e w' => e = .returned (.tuple #[]) ∧ w' = (W.setCell ⟨P, 0, none⟩ (.bool false)).setCell ⟨P, 2, none⟩ (.bool false) := by
  have h0 := h.p0
  have h2 : ∀ v, (W.setCell ⟨P, 0, none⟩ v).cell? ⟨P, 2, none⟩ = some (.bool armed) := fun v => by
    rw [World.cell?_setCell_other _ _ _ _ (fun e => by injection e with _ e2; cases e2)]; exact h.p2
  have f0 := h.pf 0
  have f2 : ∀ v, (W.setCell ⟨P, 0, none⟩ v).frozen? ⟨P, 2, none⟩ = false := fun v => by rw [World.frozen?_setCell]; exact h.pf 2
  go_enter Try.func33, Try.ntmps33
  go_wp2
  exact bodyPost_end (v := .tuple #[]) (by simp [results, Try.results33]) rfl ⟨rfl, rfl⟩
/-- What a crash makes of the sectors. -/
def keepLas (f : Int → Option (List UInt8)) (las : List (List UInt8)) (ks : List Int) : List (List UInt8) := ks.foldl (fun s z => match f z with
  | some l => s.set z.toNat l
  | none => s) las
theorem keepLas_snoc (f : Int → Option (List UInt8)) (las : List (List UInt8)) (ks : List Int) (z : Int) : keepLas f las (ks ++ [z]) = match f z with
  | some l => (keepLas f las ks).set z.toNat l
  | none => keepLas f las ks := by
  unfold keepLas; rw [List.foldl_append]; rfl
theorem wpList_store_eq {ops : Array Oper} {rest : List Oper} {op : Oper} {a : Act} {w w' : World} {Q : Exit → Act → World → Prop} {A : Addr} {v : Value} (hgd : op.guard = none) (ty : TypeId) (x y : Operand) (ho : op.op = .store ty x y)
    (hx : a.eval x = .pointer (some A)) (hy : a.eval y = v) (hr : (storeVar ty A v).run Try.prog w = .ok () w') (h : wpList Try.prog ops Q rest (a.put op.dst undef) w') : wpList Try.prog ops Q (op :: rest) a w :=
  wpList_plain hgd fun K hK => by
    unfold Oper.wp execOp
    simp only [ho, hx, hy, Instr.storeAt, Instr.sureAddr, Sem.run_bind, Sem.run_pure, Result.andThen_ok, hr]
    exact hK _ _ h
/-- A row is loaded where nothing is written. -/
theorem wpStill_load_row {ops : Array Oper} {rest : List Oper} {op : Oper} {a : Act} {w : World} {Q : Act → Prop} (hw : Region.wanted op (yielded ops a.tmps) = true) (ty : TypeId) (x : Operand) (ho : op.op = .load ty x)
    (b o : Nat) (hx : a.eval x = .pointer (some ⟨b, o, none⟩)) (cs : List Value) (d : TypeDesc) (hS : w.rangeAt b o cs) (hu : Try.prog.underlying ty = some d) (hd : d.isRow = true) (hi : (Try.prog.info? ty).map (·.size) = some cs.length)
    (h : wpStill Try.prog ops w Q rest (a.put op.dst (.agg cs.toArray))) : wpStill Try.prog ops w Q (op :: rest) a := by
  refine wpStill_step fun K hK => ?_
  rw [if_pos hw]
  have hrun : (execOp a.eval op).run Try.prog w = .ok (.value (.agg cs.toArray)) w := by
    rcases yieldsIf_load_mid (P := Try.prog) (ops := ops) (S := fun w' => w' = w) hw ty x ho b o hx cs d (fun w' e => by rw [e]; exact hS) hu hd hi with ⟨_, h1⟩ | ⟨h1, _⟩
    · exact h1 w rfl
    · rw [hw] at h1; cases h1
  unfold Oper.still
  rw [hrun]
  exact ⟨rfl, hK _ h⟩
/-- A row of ints, not in block L. -/
def IntsIn (w : World) (a : Option Addr) (L : Nat) (l : List Int) : Prop :=
  l = [] ∨ ∃ b off, a = some ⟨b, off, none⟩ ∧ b ≠ L ∧ ∀ i, i < l.length → w.cell? ⟨b, off + i, none⟩ = some (.int .i64 (l.getD i 0))
theorem take_one (l : List Int) (k : Nat) (h : k < l.length) : l.take (k + 1) = l.take k ++ [l.getD k 0] := by
  rw [List.take_succ_eq_append_getElem h]; simp [List.getD_eq_getElem?_getD, h]
end
end Go.Proofs.Ytobgopiadfinbaa
