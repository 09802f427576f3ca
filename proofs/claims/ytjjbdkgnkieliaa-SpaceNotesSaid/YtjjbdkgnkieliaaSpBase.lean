/-
  TALLIES: a map of numbers by numbers, as a function (those that lack are 0), and which numbers are there.
-/
import Derived.Test.YtjjbdkgnkieliaaChecked
import Derived.WalkKit
import Derived.WalkLawsBesides
import Derived.Lib.Hide
import Derived.OpenShut
import Derived.Maps.OwnSet
import Derived.Maps.Views
import Derived.Maps.RangeWalk
import Derived.Carry
namespace Go.Proofs.Ytjjbdkgnkieliaa
open Go.RowKit Go.Maps Go.ChangeMaps Go.MapKept Go.WideElems

theorem block_lt {w : World} {p : Addr} {v : Value} (h : w.cell? p = some v) : p.block < w.heap.size := by
  rcases Nat.lt_or_ge p.block w.heap.size with h1 | h1
  · exact h1
  · simp [World.cell?, Array.getElem?_eq_none h1] at h
theorem ret_i64 {a b : Int} (h : a = b) : Ending.returned (.int .i64 a) = .returned (.int .i64 b) := by rw [h]
theorem ret_bool {a b : Bool} (h : a = b) : Ending.returned (.bool a) = .returned (.bool b) := by rw [h]
theorem new_cell {w : World} {n i : Nat} {cs : Array Value} {T : TypeId} {v : Value} (hn : n = w.heap.size) (hv : cs[i]? = some v) : (w.alloc (.cells cs T)).cell? ⟨n, i, none⟩ = some v := by
  subst hn
  simp [World.cell?_alloc_at, hv]
theorem keyLaw : Keyed Try.prog 3 := int_keyed Try.underlying3
theorem zero_int (w : World) : (zeroValue 3).run Try.prog w = .ok (.int .i64 0) w := by
  have h : (Try.prog.info? 3).map (·.zero) = some (some (.int .i64 0)) := by kernel_rfl
  obtain ⟨i, hi, hz⟩ := Option.map_eq_some_iff.1 h
  simp [zeroValue, typeInfo, hi, hz]
/-- Every key of a map that is keyed by integers is one. -/
theorem int_entries {H : Type} {P : Program} {k : TypeId} {q : IntKind} {R : Value → Option (DataW H × List MemPlace)} {w : World} {b n : Nat} {D : DataW H} (hk : P.underlying k = some (.int q)) (h : w.ownsMap P k R b n D) : ∃ es, D = .map es ∧ ∀ p ∈ es, ∃ x, p.1 = .int q x := by
  obtain ⟨es, clock, _, F, _, rfl⟩ := h
  refine ⟨_, rfl, fun p hp => ?_⟩
  obtain ⟨x, hx, rfl⟩ := List.mem_map.1 (mem_sorted.1 hp)
  obtain ⟨y, hy⟩ := F.reads x hx
  rw [rg_of hy]
  obtain ⟨z, _, e, _⟩ := keyOf_int_inv hk (rd_key hy)
  exact ⟨z, e⟩
theorem size_none {H : Type} {P : Program} {k : TypeId} {q : IntKind} {R : Value → Option (DataW H × List MemPlace)} {w : World} {b n : Nat} {D : DataW H} (hk : P.underlying k = some (.int q)) (h : w.ownsMap P k R b n D) : (size D = 0) ↔ ∀ i, has D (.int q i) = false := by
  obtain ⟨es, rfl, hes⟩ := int_entries hk h
  rw [size_eq]
  constructor
  · intro e i
    rw [List.length_eq_zero_iff.1 e]; simp [has_eq]
  · intro e
    cases es with
    | nil => rfl
    | cons p es =>
      obtain ⟨x, hx⟩ := hes p (by simp)
      have h1 := e x
      rw [has_eq, List.any_cons, hx, WideAt.sameKey_self (show WideAt.IsKeyLit (.int q x) from trivial)] at h1
      simp at h1
/-- Block M is a tally of f; there are those of p. -/
def TalW (W : World) (M n : Nat) (f : Int → Int) (p : Int → Bool) : Prop := ∃ D, W.ownsMap Try.prog 3 (plainElem (H := Unit) Try.prog 3) M n D ∧ (∀ i, D.atKey (.int .i64 i) (.lit (.int .i64 0)) = .lit (.int .i64 (f i))) ∧ ∀ i, has D (.int .i64 i) = p i
/-- .. just those that aren't 0. -/
def TalAt (W : World) (M n : Nat) (f : Int → Int) : Prop := TalW W M n f (fun i => decide (f i ≠ 0))
theorem TalW.kept {W W' : World} {M n : Nat} {f : Int → Int} {p : Int → Bool} (h : TalW W M n f p) {row : Option Nat} (hg : W.grownBy W' row) (hne : some M ≠ row) : TalW W' M n f p := by
  obtain ⟨D, h1, h2⟩ := h
  exact ⟨D, h1.kept hg hne, h2⟩
theorem TalW.of_block {W W' : World} {M n : Nat} {f : Int → Int} {p : Int → Bool} (h : TalW W M n f p) (hb : W'.heap[M]? = W.heap[M]?) : TalW W' M n f p := by
  obtain ⟨D, ⟨es, clock, h1, F, hs, hD⟩, h2⟩ := h
  exact ⟨D, ⟨es, clock, hb.trans h1, F, hs, hD⟩, h2⟩
theorem TalW.lt {W : World} {M n : Nat} {f : Int → Int} {p : Int → Bool} (h : TalW W M n f p) : M < W.heap.size := by
  obtain ⟨D, h1, _⟩ := h
  exact h1.lt
theorem TalW.mono {W : World} {M n n' : Nat} {f : Int → Int} {p : Int → Bool} (h : TalW W M n f p) (hn : n ≤ n') : TalW W M n' f p := by
  obtain ⟨D, h1, h2⟩ := h
  exact ⟨D, h1.mono hn, h2⟩
theorem atKey_empty (i : Int) : (DataW.map (H := Unit) []).atKey (.int .i64 i) (.lit (.int .i64 0)) = .lit (.int .i64 0) :=
  atKey_of_not_has (by simp [has_eq]) _
theorem TalAt.made (W : World) : TalAt (W.alloc (.map #[] 0)) W.heap.size 0 (fun _ => 0) :=
  ⟨.map [], World.ownsMap_made W _ _ _, fun i => atKey_empty i, fun i => by simp [has_eq]⟩
/-- A look-up. -/
theorem TalW.look {W : World} {M n : Nat} {f : Int → Int} {p : Int → Bool} (h : TalW W M n f p) (i : Int) (hi : (Lit.int .i64 i).wf = true) :
    (Instr.lookup 55 (.map (some M)) (.int .i64 i) false).run Try.prog W = .ok (.int .i64 (f i)) W := by
  obtain ⟨D, h1, h2, _⟩ := h
  obtain ⟨c, hrun, hat, _⟩ := h1.lookup_int keyLaw Try.underlying55 Try.underlying3 (zero_int W) (keyOf_int_mk Try.underlying3 hi)
  rw [h2 i] at hat
  have : f i = c := by simpa using hat
  rw [hrun, this]
theorem TalW.wf {W : World} {M n : Nat} {f : Int → Int} {p : Int → Bool} (h : TalW W M n f p) (i : Int) (hi : (Lit.int .i64 i).wf = true) : (Lit.int .i64 (f i)).wf = true := by
  obtain ⟨D, h1, h2, _⟩ := h
  obtain ⟨c, _, hat, hw⟩ := h1.lookup_int keyLaw Try.underlying55 Try.underlying3 (zero_int W) (keyOf_int_mk Try.underlying3 hi)
  rw [h2 i] at hat
  have : f i = c := by simpa using hat
  rw [this]; exact hw
theorem look_nil_tal (W : World) (i : Int) (hi : (Lit.int .i64 i).wf = true) : (Instr.lookup 55 (.map none) (.int .i64 i) false).run Try.prog W = .ok (.int .i64 0) W := by
  have h := look_nil (P := Try.prog) (w := W) false keyLaw Try.underlying55 (zero_int W) (keyOf_int_mk Try.underlying3 hi)
  simpa using h
def updI (f : Int → Int) (i z : Int) : Int → Int := fun k => if k = i then z else f k
def updB (f : Int → Bool) (i : Int) (z : Bool) : Int → Bool := fun k => if k = i then z else f k
theorem updI_self (f : Int → Int) (i : Int) : updI f i (f i) = f := by
  funext k; unfold updI; split
  · rename_i e; rw [e]
  · rfl
/-- A store. -/
theorem TalW.store {W : World} {M n : Nat} {f : Int → Int} {p : Int → Bool} (h : TalW W M n f p) (i : Int) (hi : (Lit.int .i64 i).wf = true) (z : Int) (hz : (Lit.int .i64 z).wf = true) (hn : n < maxLen) :
    ∃ W', (Instr.mapUpdate 55 (.map (some M)) (.int .i64 i) (.int .i64 z)).run Try.prog W = .ok () W' ∧ TalW W' M (n + 1) (updI f i z) (updB p i true) ∧ W.grownBy W' (some M) ∧ W'.heap.size = W.heap.size := by
  obtain ⟨D, h1, h2, h3⟩ := h
  have hk := keyOf_int_mk (P := Try.prog) Try.underlying3 hi
  obtain ⟨W', hrun, hown, hg⟩ := h1.store keyLaw Try.underlying55 hn hk (plainElem_int Try.underlying3 hz)
  refine ⟨W', hrun, ⟨_, hown, fun k => ?_, fun k => ?_⟩, hg.grown, ?_⟩
  · unfold updI
    by_cases e : k = i
    · subst e
      rw [atKey_put_same h1.isMap (show WideAt.IsKeyLit (.int .i64 k) from trivial), if_pos rfl]
    · rw [atKey_put_other (by intro x; injection x with _ x; exact e x), if_neg e]; exact h2 k
  · unfold updB
    by_cases e : k = i
    · subst e
      rw [has_put_same h1.isMap (show WideAt.IsKeyLit (.int .i64 k) from trivial), if_pos rfl]
    · rw [has_put_other (by intro x; injection x with _ x; exact e x), if_neg e]; exact h3 k
  · obtain ⟨es, clock, es', clock', hb, hw⟩ := hg
    rw [hw]; simp [setBlock]
/-- delete. -/
theorem TalW.drop {W : World} {M n : Nat} {f : Int → Int} {p : Int → Bool} (h : TalW W M n f p) (i : Int) (hi : (Lit.int .i64 i).wf = true) (ty : TypeId) :
    ∃ W', (Builtin.delete_ #[55, 3] ty #[.map (some M), .int .i64 i]).run Try.prog W = .ok (.tuple #[]) W' ∧ TalW W' M n (updI f i 0) (updB p i false) ∧ W.grownBy W' (some M) ∧ W'.heap.size = W.heap.size := by
  obtain ⟨D, h1, h2, h3⟩ := h
  have hk := keyOf_int_mk (P := Try.prog) Try.underlying3 hi
  obtain ⟨W', hrun, hown, hg⟩ := h1.drop keyLaw Try.underlying55 hk ty
  refine ⟨W', hrun, ⟨_, hown, fun k => ?_, fun k => ?_⟩, hg.grown, ?_⟩
  · unfold updI
    by_cases e : k = i
    · subst e
      rw [atKey_del_same, if_pos rfl]
    · rw [atKey_del_other (by intro x; injection x with _ x; exact e x), if_neg e]; exact h2 k
  · unfold updB
    by_cases e : k = i
    · subst e
      rw [has_del_same, if_pos rfl]
    · rw [has_del_other (by intro x; injection x with _ x; exact e x), if_neg e]; exact h3 k
  · obtain ⟨es, clock, es', clock', hb, hw⟩ := hg
    rw [hw]; simp [setBlock]
/-- len. -/
theorem TalAt.len {W : World} {M n : Nat} {f : Int → Int} (h : TalAt W M n f) (ty : TypeId) :
    ∃ c : Nat, c ≤ n ∧ (Builtin.len_ #[55] ty #[.map (some M)]).run Try.prog W = .ok (.int .i64 (c : Int)) W ∧ (c = 0 ↔ ∀ i, f i = 0) := by
  obtain ⟨D, h1, h2, h3⟩ := h
  refine ⟨size D, h1.size_le, h1.len Try.underlying55 ty, ?_⟩
  rw [size_none Try.underlying3 h1]
  constructor
  · intro e i
    have := e i
    rw [h3] at this
    simpa using this
  · intro e i
    rw [h3]; simp [e i]
end Go.Proofs.Ytjjbdkgnkieliaa
