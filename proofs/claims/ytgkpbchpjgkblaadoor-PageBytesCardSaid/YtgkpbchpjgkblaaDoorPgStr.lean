/-
  ROWS OF TEXTS OF THE CALL'S OWN; the keys of cells.
-/
import Derived.Test.YtgkpbchpjgkblaaDoorPgKeysP
import Derived.Test.YtgkpbchpjgkblaaDoorPgGet
import Derived.Test.YtgkpbchpjgkblaaDoorPgRec
import Derived.Laws.OwnMore
namespace Go.Proofs.YtgkpbchpjgkblaaDoor
open Go.RowKit
/-- A row of texts of the call's own. -/
def RowS (W : World) (B : Nat) (v : Value) (ts : List ByteArray) : Prop := W.ownsRow B 9 1 v ts.length (ts.map Value.string)
theorem RowS.below {W W' : World} {B : Nat} {v : Value} {ts : List ByteArray} (h : RowS W B v ts) (hb : Below W.heap.size W W') : RowS W' B v ts :=
  World.ownsRow.kept h (row := none) ⟨hb.os, hb.tape, hb.output, hb.size, fun k hk _ => hb.block k hk⟩ (by cases v.ownBlock with
    | none => exact .inl rfl
    | some k => exact .inr (fun e => by cases e))
theorem RowS.none (W : World) (B : Nat) : RowS W B (.slice none 0 0) [] := World.ownsRow_nil _ _ _ _
theorem infoS : (Tryd.prog.info? 9).map (fun i => (i.zero, i.size, i.bytes)) = some (some (.string ⟨#[]⟩), 1, 16) := by kernel_rfl
theorem append_str {W0 : World} {ops : Array Oper} {rest : List Oper} {o : Oper} {a : Act} {Q : Exit → Act → World → Prop} (hgd : o.guard = none) (s x : Operand)
    (ho : o.op = .call { callee := .builtin .append, args := #[s, x], argTypes := #[32, 32] })
    (B : Nat) (v : Value) (ts : List ByteArray) (t : ByteArray) (hs : a.eval s = v) (hown : RowS W0 B v ts) (hx : a.eval x = .slice (some ⟨W0.heap.size, 0, none⟩) 1 1) (h10 : ts.length ≤ 100) (hB : B ≤ W0.heap.size)
    (h : ∀ v' w', RowS w' B v' (ts ++ [t]) → (W0.alloc (.cells #[.string t] 9)).grownBy w' v.ownBlock → (v'.ownBlock = v.ownBlock ∨ v'.ownBlock = some (W0.heap.size + 1)) → wpList Tryd.prog ops Q rest (a.put o.dst v') w') :
    wpList Tryd.prog ops Q (o :: rest) a (W0.alloc (.cells #[.string t] 9)) := by
  obtain ⟨i0, hi, hzz⟩ := Option.map_eq_some_iff.1 infoS
  simp only [Prod.mk.injEq] at hzz
  obtain ⟨hz0, hz1, hz2⟩ := hzz
  refine wpList_append_own_at _ hgd s x 32 ho B 9 i0 (.string ⟨#[]⟩) 1 16 Tryd.underlying32 hi hz0 hz1 hz2 rfl (by decide) v ts.length (ts.map Value.string) hs (World.ownsRow.alloc hown _) ⟨W0.heap.size, 0, Option.none⟩ 1 1 [.string t] hx rfl ?_ ?_ (by unfold maxLen; omega) (by omega) (by rw [World.size_alloc]; omega) (fun v' w' h1 h2 _ h4 => h v' w' ?_ h2 (by rw [World.size_alloc] at h4; exact h4))
  · intro j u' hj
    match j, hj with
    | 0, hj => simp at hj; subst hj; exact new_cell rfl rfl
  · intro u' hu; simp at hu; subst hu; rfl
  · unfold RowS
    rw [List.length_append, List.map_append]; exact h1
theorem RowS.cells {W : World} {B : Nat} {v : Value} {ts : List ByteArray} (h : RowS W B v ts) (h0 : 0 < ts.length) : ∃ g cap, v = .slice (some ⟨g, 0, Option.none⟩) ts.length cap ∧ B ≤ g ∧ ∀ j, j < ts.length → W.cell? ⟨g, j, Option.none⟩ = some (.string (ts.getD j ByteArray.empty)) := by
  rcases h.2 with ⟨hv, hn⟩ | ⟨g, cp, cur, hv, hb, _⟩
  · omega
  · subst hv
    refine ⟨g, cp, rfl, hb, fun j hj => ?_⟩
    rw [World.ownsRow.cellAt h j (by omega), List.getElem?_map, List.getD_eq_getElem?_getD, List.getElem?_eq_getElem hj]; rfl
/-- The keys of cells, and a row of texts as bytes. -/
def keysOf (l : List (ByteArray × ByteArray)) : List ByteArray := l.map Prod.fst
def lb (ts : List ByteArray) : List (List UInt8) := ts.map (fun t => t.data.toList)
theorem keysOf_succ {l : List (ByteArray × ByteArray)} {k : Nat} (h : k < l.length) : (keysOf l).take (k + 1) = (keysOf l).take k ++ [(l.getD k noCl).1] := by
  unfold keysOf
  rw [List.take_succ_eq_append_getElem (by simpa using h), List.getD_eq_getElem?_getD, List.getElem?_eq_getElem h]
  simp
theorem keysOf_len (l : List (ByteArray × ByteArray)) : (keysOf l).length = l.length := by unfold keysOf; simp
end Go.Proofs.YtgkpbchpjgkblaaDoor
