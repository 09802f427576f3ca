/-
  THE SECTORS THAT ARE LOOSE: a map of sectors by their numbers, as a function.
-/
import Derived.Test.YtobgopiadfinbaaDvLay
import Derived.Maps.OwnSet
import Derived.Maps.Views
namespace Go.Proofs.Ytobgopiadfinbaa
open Go.RowKit Go.Maps Go.ChangeMaps Go.MapKept Go.WideElems

theorem byteCells_inj : ∀ {a b : List UInt8}, Lib.byteCells a = Lib.byteCells b → a = b
  | [], [], _ => rfl
  | [], y :: b, h => by simp [Lib.byteCells] at h
  | x :: a, [], h => by simp [Lib.byteCells] at h
  | x :: a, y :: b, h => by
    unfold Lib.byteCells at h
    simp only [List.map_cons, List.cons.injEq] at h
    have h1 : x = y := by
      have h2 := h.1
      simp only [Value.int.injEq, true_and] at h2
      exact UInt8.toNat_inj.1 (by omega)
    rw [h1, byteCells_inj h.2]
theorem secV_inj {a b : List UInt8} (h : secV a = secV b) : a = b := by
  unfold secV secC at h
  simp only [Value.agg.injEq] at h
  exact byteCells_inj (by simpa using congrArg Array.toList h)
/-- How a sector in a map reads: its bytes. -/
noncomputable def secR {H : Type} (v : Value) : Option (DataW H × List MemPlace) := by
  classical
  exact if h : ∃ l : List UInt8, l.length = 64 ∧ v = secV l then some (.lit (.string h.choose), []) else none
theorem secR_of {H : Type} {l : List UInt8} (hl : l.length = 64) : secR (H := H) (secV l) = some (.lit (.string l), []) := by
  have h : ∃ m : List UInt8, m.length = 64 ∧ secV l = secV m := ⟨l, hl, rfl⟩
  unfold secR
  rw [dif_pos h]
  rw [← secV_inj h.choose_spec.2]
theorem secR_inv {H : Type} {v : Value} {z : DataW H × List MemPlace} (h : secR v = some z) : ∃ l : List UInt8, l.length = 64 ∧ v = secV l ∧ z = (.lit (.string l), []) := by
  unfold secR at h
  split at h
  · rename_i hx
    obtain ⟨h1, h2⟩ := hx.choose_spec
    exact ⟨_, h1, h2, (Option.some.inj h).symm⟩
  · cases h
theorem keyLaw : Keyed Try.prog 3 := int_keyed Try.underlying3
def blank64 : List UInt8 := pad []
theorem blank64_len : blank64.length = 64 := pad_len (by decide)
/-- A map's datum, as a function. -/
def MapIs (D : DataW Unit) (f : Int → Option (List UInt8)) : Prop :=
  (∀ i, has D (.int .i64 i) = (f i).isSome) ∧ ∀ i l, f i = some l → D.atKey (.int .i64 i) (.lit (.string blank64)) = .lit (.string l)
def upd (f : Int → Option (List UInt8)) (i : Int) (l : Option (List UInt8)) : Int → Option (List UInt8) := fun k => if k = i then l else f k
/-- Block M is a map of sectors: those of f. -/
def LooseAt (W : World) (M n : Nat) (f : Int → Option (List UInt8)) : Prop := ∃ D, W.ownsMap Try.prog 3 (secR (H := Unit)) M n D ∧ MapIs D f
theorem LooseAt.kept {W W' : World} {M n : Nat} {f : Int → Option (List UInt8)} (h : LooseAt W M n f) {row : Option Nat} (hg : W.grownBy W' row) (hne : some M ≠ row) : LooseAt W' M n f := by
  obtain ⟨D, h1, h2⟩ := h
  exact ⟨D, h1.kept hg hne, h2⟩
theorem LooseAt.below {W W' : World} {M n : Nat} {f : Int → Option (List UInt8)} (h : LooseAt W M n f) (hb : Below W.heap.size W W') : LooseAt W' M n f :=
  h.kept (row := none) ⟨hb.os, hb.tape, hb.output, hb.size, fun k hk _ => hb.block k hk⟩ (by simp)
theorem LooseAt.made (W : World) : LooseAt (W.alloc (.map #[] 0)) W.heap.size 0 (fun _ => none) :=
  ⟨.map [], World.ownsMap_made W _ _ _, fun i => by simp [has_eq], fun i l h => by cases h⟩
/-- A look-up. -/
def lookV (f : Int → Option (List UInt8)) (i : Int) : Value := match f i with
  | some l => .tuple #[secV l, .bool true]
  | none => .tuple #[secV blank64, .bool false]
theorem LooseAt.look {W : World} {M n : Nat} {f : Int → Option (List UInt8)} (h : LooseAt W M n f) (i : Int) (hi : (Lit.int .i64 i).wf = true) :
    (Instr.lookup 51 (.map (some M)) (.int .i64 i) true).run Try.prog W = .ok (lookV f i) W := by
  obtain ⟨D, h1, h2, h3⟩ := h
  obtain ⟨v, ps, hrun, hv⟩ := h1.look_ok keyLaw Try.underlying51 ((zero_of_info infoK).1 W) (secR_of blank64_len) (keyOf_int_mk Try.underlying3 hi)
  rw [hrun]
  obtain ⟨l, hl, rfl, hz⟩ := secR_inv hv
  simp only [Prod.mk.injEq] at hz
  replace hz : D.atKey (.int .i64 i) (.lit (.string blank64)) = .lit (.string l) ∧ ps = [] := hz
  rw [h2 i]
  unfold lookV
  cases hf : f i with
  | none =>
    have hn : has D (.int .i64 i) = false := by rw [h2 i, hf]; rfl
    have ha := atKey_of_not_has hn (.lit (.string blank64))
    rw [ha] at hz
    have : blank64 = l := by simpa using hz.1
    rw [this]; rfl
  | some m =>
    have ha := h3 i m hf
    rw [ha] at hz
    have : m = l := by simpa using hz.1
    rw [this]; rfl
/-- A store. -/
theorem LooseAt.store {W : World} {M n : Nat} {f : Int → Option (List UInt8)} (h : LooseAt W M n f) (i : Int) (hi : (Lit.int .i64 i).wf = true) (l : List UInt8) (hl : l.length = 64) (hn : n < maxLen) :
    ∃ W', (Instr.mapUpdate 51 (.map (some M)) (.int .i64 i) (secV l)).run Try.prog W = .ok () W' ∧ LooseAt W' M (n + 1) (upd f i (some l)) ∧ W.grownBy W' (some M) := by
  obtain ⟨D, h1, h2, h3⟩ := h
  have hk := keyOf_int_mk (P := Try.prog) Try.underlying3 hi
  obtain ⟨W', hrun, hown, hg⟩ := h1.update keyLaw Try.underlying51 hn hk (secR_of hl)
  refine ⟨W', hrun, ⟨_, hown, fun k => ?_, fun k m hm => ?_⟩, hg⟩
  · unfold upd
    by_cases e : k = i
    · subst e
      rw [has_put_same h1.isMap (show WideAt.IsKeyLit (.int .i64 k) from trivial), if_pos rfl]; rfl
    · rw [has_put_other (by intro x; injection x with _ x; exact e x), if_neg e]; exact h2 k
  · unfold upd at hm
    by_cases e : k = i
    · subst e
      rw [if_pos rfl] at hm
      rw [atKey_put_same h1.isMap (show WideAt.IsKeyLit (.int .i64 k) from trivial), Option.some.inj hm]
    · rw [if_neg e] at hm
      rw [atKey_put_other (by intro x; injection x with _ x; exact e x)]; exact h3 k m hm
/-- clear. -/
theorem LooseAt.wipe {W : World} {M n : Nat} {f : Int → Option (List UInt8)} (h : LooseAt W M n f) (ty : TypeId) :
    ∃ W', (Builtin.clear_ #[51] ty #[.map (some M)]).run Try.prog W = .ok (.tuple #[]) W' ∧ LooseAt W' M n (fun _ => none) ∧ W.grownBy W' (some M) := by
  obtain ⟨D, ⟨es, clock, hb, F, hs, hD⟩, _⟩ := h
  refine ⟨setBlock W M (.map #[] clock), ?_, ⟨.map [], ⟨#[], clock, heap_setBlock_same hb _, ⟨by simp, stamped_empty clock, by simp⟩, Nat.zero_le _, rfl⟩, fun i => by simp [has_eq], fun i l h => by cases h⟩, ⟨rfl, rfl, rfl, by simp [setBlock], fun i _ hi => heap_setBlock_other hb _ (fun e => hi (by rw [e]))⟩⟩
  simp [Builtin.clear_, run_underlying Try.underlying51, Go.MapKept.run_getObj_map hb, Go.MapKept.run_setObj_map _ hb, Result.andThen]
  rfl
end Go.Proofs.Ytobgopiadfinbaa
