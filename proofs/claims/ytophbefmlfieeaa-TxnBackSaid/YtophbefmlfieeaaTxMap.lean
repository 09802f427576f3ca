/-
  A TABLE OF TRANSACTIONS IN MEMORY: a map of their blocks by their numbers; strings.Clone.
-/
import Derived.Test.YtophbefmlfieeaaRcAllRc
import Derived.Test.YtophbefmlfieeaaJoin
import Derived.Maps.OwnSet
import Derived.Maps.Views
namespace Go.Proofs.Ytophbefmlfieeaa
open Go.RowKit Go.Maps Go.ChangeMaps Go.MapKept Go.WideElems
/-- How a frame in a map reads: by the number of its block. -/
def encF : Option Nat → Int
  | none => 0
  | some b => (b : Int) + 1
theorem encF_inj {a b : Option Nat} (h : encF a = encF b) : a = b := by
  cases a <;> cases b <;> simp [encF] at h ⊢ <;> omega
def frV : Option Nat → Value
  | none => .pointer none
  | some b => .pointer (some ⟨b, 0, none⟩)
theorem frV_inj {a b : Option Nat} (h : frV a = frV b) : a = b := by
  cases a <;> cases b <;> simp [frV] at h ⊢
  exact h
noncomputable def frR {H : Type} (v : Value) : Option (DataW H × List MemPlace) := by
  classical
  exact if h : ∃ o, v = frV o then some (.lit (.int .i64 (encF h.choose)), []) else none
theorem frR_of {H : Type} (o : Option Nat) : frR (H := H) (frV o) = some (.lit (.int .i64 (encF o)), []) := by
  have h : ∃ o', frV o = frV o' := ⟨o, rfl⟩
  unfold frR
  rw [dif_pos h, ← frV_inj h.choose_spec]
theorem frR_inv {H : Type} {v : Value} {z : DataW H × List MemPlace} (h : frR v = some z) : ∃ o, v = frV o ∧ z = (.lit (.int .i64 (encF o)), []) := by
  unfold frR at h
  split at h
  · rename_i hx
    exact ⟨_, hx.choose_spec, (Option.some.inj h).symm⟩
  · cases h
theorem tx_key : Keyed Try.prog 3 := int_keyed Try.underlying3
theorem zero_fr (w : World) : (zeroValue 76).run Try.prog w = .ok (frV none) w := by
  have h : (Try.prog.info? 76).map (·.zero) = some (some (.pointer none)) := by kernel_rfl
  obtain ⟨i, hi, hz⟩ := Option.map_eq_some_iff.1 h
  simp [zeroValue, typeInfo, hi, hz, frV]
/-- Block M is a map of frames: those of o. -/
def FrAt (W : World) (M n : Nat) (o : Int → Option Nat) : Prop := ∃ D, W.ownsMap Try.prog 3 (frR (H := Unit)) M n D ∧ (∀ i, D.atKey (.int .i64 i) (.lit (.int .i64 0)) = .lit (.int .i64 (encF (o i)))) ∧ ∀ i, has D (.int .i64 i) = (o i).isSome
theorem FrAt.of_block {W W' : World} {M n : Nat} {o : Int → Option Nat} (h : FrAt W M n o) (hb : W'.heap[M]? = W.heap[M]?) : FrAt W' M n o := by
  obtain ⟨D, ⟨es, clock, h1, F, hs, hD⟩, h2⟩ := h
  exact ⟨D, ⟨es, clock, hb.trans h1, F, hs, hD⟩, h2⟩
theorem FrAt.lt {W : World} {M n : Nat} {o : Int → Option Nat} (h : FrAt W M n o) : M < W.heap.size := by
  obtain ⟨D, h1, _⟩ := h
  exact h1.lt
theorem FrAt.mono {W : World} {M n n' : Nat} {o : Int → Option Nat} (h : FrAt W M n o) (hn : n ≤ n') : FrAt W M n' o := by
  obtain ⟨D, h1, h2⟩ := h
  exact ⟨D, h1.mono hn, h2⟩
theorem fr_empty (i : Int) : (DataW.map (H := Unit) []).atKey (.int .i64 i) (.lit (.int .i64 0)) = .lit (.int .i64 0) := atKey_of_not_has (by simp [has_eq]) _
theorem FrAt.made (W : World) : FrAt (W.alloc (.map #[] 0)) W.heap.size 0 (fun _ => none) :=
  ⟨.map [], World.ownsMap_made W _ _ _, fun i => fr_empty i, fun i => by simp [has_eq]⟩
set_option maxRecDepth 100000 in
theorem FrAt.look {W : World} {M n : Nat} {o : Int → Option Nat} (h : FrAt W M n o) (i : Int) (hi : (Lit.int .i64 i).wf = true) :
    (Instr.lookup 68 (.map (some M)) (.int .i64 i) false).run Try.prog W = .ok (frV (o i)) W := by
  obtain ⟨D, h1, h2, _⟩ := h
  obtain ⟨v, ps, hrun, hv⟩ := h1.lookup tx_key Try.underlying68 (zero_fr W) (frR_of none) (keyOf_int_mk Try.underlying3 hi)
  rw [hrun]
  obtain ⟨o', rfl, hz⟩ := frR_inv hv
  simp only [Prod.mk.injEq] at hz
  have h4 := hz.1
  rw [show (DataW.lit (H := Unit) (.int .i64 (encF none))) = .lit (.int .i64 0) from rfl, h2 i] at h4
  have : encF (o i) = encF o' := by injection h4 with h4; injection h4
  rw [encF_inj this]
set_option maxRecDepth 100000 in
theorem FrAt.lookOk {W : World} {M n : Nat} {o : Int → Option Nat} (h : FrAt W M n o) (i : Int) (hi : (Lit.int .i64 i).wf = true) :
    (Instr.lookup 68 (.map (some M)) (.int .i64 i) true).run Try.prog W = .ok (.tuple #[frV (o i), .bool (o i).isSome]) W := by
  obtain ⟨D, h1, h2, h3⟩ := h
  obtain ⟨v, ps, hrun, hv⟩ := h1.look_ok tx_key Try.underlying68 (zero_fr W) (frR_of none) (keyOf_int_mk Try.underlying3 hi)
  rw [hrun]
  obtain ⟨o', rfl, hz⟩ := frR_inv hv
  simp only [Prod.mk.injEq] at hz
  have h4 := hz.1
  rw [show (DataW.lit (H := Unit) (.int .i64 (encF none))) = .lit (.int .i64 0) from rfl, h2 i] at h4
  have : encF (o i) = encF o' := by injection h4 with h4; injection h4
  have e := encF_inj this
  rw [h3 i, ← e]
def updF (f : Int → Option Nat) (i : Int) (z : Option Nat) : Int → Option Nat := fun k => if k = i then z else f k
theorem FrAt.store {W : World} {M n : Nat} {o : Int → Option Nat} (h : FrAt W M n o) (i : Int) (hi : (Lit.int .i64 i).wf = true) (b : Nat) (hn : n < maxLen) :
    ∃ W', (Instr.mapUpdate 68 (.map (some M)) (.int .i64 i) (.pointer (some ⟨b, 0, none⟩))).run Try.prog W = .ok () W' ∧ FrAt W' M (n + 1) (updF o i (some b)) ∧ W.grownBy W' (some M) ∧ W'.heap.size = W.heap.size := by
  obtain ⟨D, h1, h2, h3⟩ := h
  have hk := keyOf_int_mk (P := Try.prog) Try.underlying3 hi
  obtain ⟨W', hrun, hown, hg⟩ := h1.store tx_key Try.underlying68 hn hk (frR_of (some b))
  refine ⟨W', hrun, ⟨_, hown, fun k => ?_, fun k => ?_⟩, hg.grown, ?_⟩
  · unfold updF
    by_cases e : k = i
    · subst e
      rw [atKey_put_same h1.isMap (show WideAt.IsKeyLit (.int .i64 k) from trivial), if_pos rfl]
    · rw [atKey_put_other (by intro x; injection x with _ x; exact e x), if_neg e]; exact h2 k
  · unfold updF
    by_cases e : k = i
    · subst e
      rw [has_put_same h1.isMap (show WideAt.IsKeyLit (.int .i64 k) from trivial), if_pos rfl]; rfl
    · rw [has_put_other (by intro x; injection x with _ x; exact e x), if_neg e]; exact h3 k
  · obtain ⟨es, clock, es', clock', hb, hw⟩ := hg
    rw [hw]; simp [setBlock]
theorem FrAt.len {W : World} {M n : Nat} {o : Int → Option Nat} (h : FrAt W M n o) (ty : TypeId) :
    ∃ c : Nat, c ≤ n ∧ (Builtin.len_ #[68] ty #[.map (some M)]).run Try.prog W = .ok (.int .i64 (c : Int)) W := by
  obtain ⟨D, h1, h2, h3⟩ := h
  exact ⟨size D, h1.size_le, h1.len Try.underlying68 ty⟩
/-! ### strings.Clone, -/
theorem clone_str (s : ByteArray) (W : World) (hs : s.size ≤ 281474976710656) : Calls Try.prog 77 #[.string s] W fun x w' => x = .returned (.string s) ∧ Below W.heap.size W w' := by
  have KC := Lib.hid (Try.stringslite_Clone s W hs)
  go_enter Try.func77, Try.ntmps77
  go_wp2_with fail
  refine KC.out.mono ?_
  rintro x w1 ⟨rfl, hb⟩
  go_wp2
  go_ret
  exact ⟨rfl, hb⟩
end Go.Proofs.Ytophbefmlfieeaa
