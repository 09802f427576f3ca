/-
  MAPS OF BLOCKS BY ANY KEY: maps of pointers, maps of maps; what each operation does.
-/
import Derived.Test.YtgabdlnbencglaaProg
import Derived.Maps.OwnSet
import Derived.Maps.Views
import Derived.StringKeys
import Derived.Lib.Hide
import Derived.Below
import Derived.Carry
namespace Go.Proofs.Ytgabdlnbencglaa
open Go.RowKit Go.Maps Go.ChangeMaps Go.MapKept Go.WideElems Go.WideMaps
/-- How a block reads: by its number. -/
def encF : Option Nat → Int
  | none => 0
  | some b => (b : Int) + 1
theorem encF_inj {a b : Option Nat} (h : encF a = encF b) : a = b := by
  cases a <;> cases b <;> simp [encF] at h ⊢ <;> omega
/-- A pointer to a block; a map. -/
def pV : Option Nat → Value
  | none => .pointer none
  | some b => .pointer (some ⟨b, 0, none⟩)
theorem pV_inj {a b : Option Nat} (h : pV a = pV b) : a = b := by
  cases a <;> cases b <;> simp [pV] at h ⊢
  exact h
def mV : Option Nat → Value
  | none => .map none
  | some b => .map (some b)
theorem mV_inj {a b : Option Nat} (h : mV a = mV b) : a = b := by
  cases a <;> cases b <;> simp [mV] at h ⊢
  exact h
/-- Values that stand for blocks. -/
structure Mk (mk : Option Nat → Value) : Prop where
  inj : ∀ {a b : Option Nat}, mk a = mk b → a = b
theorem pMk : Mk pV := ⟨pV_inj⟩
theorem mMk : Mk mV := ⟨mV_inj⟩
noncomputable def rdB (mk : Option Nat → Value) {H : Type} (v : Value) : Option (DataW H × List MemPlace) := by
  classical
  exact if h : ∃ o, v = mk o then some (.lit (.int .i64 (encF h.choose)), []) else none
section
variable {mk : Option Nat → Value}
theorem rdB_of (hm : Mk mk) {H : Type} (o : Option Nat) : rdB mk (H := H) (mk o) = some (.lit (.int .i64 (encF o)), []) := by
  have h : ∃ o', mk o = mk o' := ⟨o, rfl⟩
  unfold rdB
  rw [dif_pos h, ← hm.inj h.choose_spec]
theorem rdB_inv {H : Type} {v : Value} {z : DataW H × List MemPlace} (h : rdB mk v = some z) : ∃ o, v = mk o ∧ z = (.lit (.int .i64 (encF o)), []) := by
  unfold rdB at h
  split at h
  · rename_i hx
    exact ⟨_, hx.choose_spec, (Option.some.inj h).symm⟩
  · cases h
end
/-- A kind of key: as a value, as it is compared. -/
structure Ky (κ : Type) where
  T : TypeId
  kv : κ → Value
  kl : κ → Lit
  law : Keyed Try.prog T
  inj : ∀ {a b : κ}, kl a = kl b → a = b
  lit : ∀ a, WideAt.IsKeyLit (kl a)
  ok : κ → Prop
  key : ∀ a, ok a → keyOf Try.prog T (kv a) = some (kl a)
def iKy : Ky Int := ⟨3, fun i => .int .i64 i, fun i => .int .i64 i, int_keyed Try.underlying3, fun h => by injection h, fun _ => trivial, fun i => (Lit.int .i64 i).wf = true, fun _ hi => keyOf_int_mk Try.underlying3 hi⟩
def sKy : Ky ByteArray := ⟨9, fun s => .string s, fun s => .string s.data.toList, string_keyed Try.underlying9, fun {a b} h => by
  injection h with h
  exact ByteArray.ext (Array.toList_inj.1 h), fun _ => trivial, fun s => s.size ≤ maxLen, fun _ hs => keyOf_string_mk Try.underlying9 hs⟩
/-- A kind of map: its type, what it holds. -/
structure Mt {κ : Type} (Y : Ky κ) (mk : Option Nat → Value) (T V : TypeId) : Prop where
  un : Try.prog.underlying T = some (.map Y.T V)
  z : ∀ w, (zeroValue V).run Try.prog w = .ok (mk none) w
  im : Mk mk
theorem lockMap : Mt sKy pV 56 76 := ⟨Try.underlying56, fun w => by
  have h : (Try.prog.info? 76).map (·.zero) = some (some (.pointer none)) := by kernel_rfl
  obtain ⟨i, hi, hz⟩ := Option.map_eq_some_iff.1 h
  simp [zeroValue, typeInfo, hi, hz, pV], pMk⟩
theorem waiterMap : Mt sKy pV 73 72 := ⟨Try.underlying73, fun w => by
  have h : (Try.prog.info? 72).map (·.zero) = some (some (.pointer none)) := by kernel_rfl
  obtain ⟨i, hi, hz⟩ := Option.map_eq_some_iff.1 h
  simp [zeroValue, typeInfo, hi, hz, pV], pMk⟩
theorem waitsMap : Mt iKy pV 58 72 := ⟨Try.underlying58, fun w => by
  have h : (Try.prog.info? 72).map (·.zero) = some (some (.pointer none)) := by kernel_rfl
  obtain ⟨i, hi, hz⟩ := Option.map_eq_some_iff.1 h
  simp [zeroValue, typeInfo, hi, hz, pV], pMk⟩
theorem heldMap : Mt iKy mV 57 73 := ⟨Try.underlying57, fun w => by
  have h : (Try.prog.info? 73).map (·.zero) = some (some (.map none)) := by kernel_rfl
  obtain ⟨i, hi, hz⟩ := Option.map_eq_some_iff.1 h
  simp [zeroValue, typeInfo, hi, hz, mV], mMk⟩
/-- Block M is a map of blocks: those of o. -/
def MAt {κ : Type} (Y : Ky κ) (mk : Option Nat → Value) (W : World) (M n : Nat) (o : κ → Option Nat) : Prop :=
  ∃ D, W.ownsMap Try.prog Y.T (rdB mk (H := Unit)) M n D ∧ (∀ i, D.atKey (Y.kl i) (.lit (.int .i64 0)) = .lit (.int .i64 (encF (o i)))) ∧ ∀ i, has D (Y.kl i) = (o i).isSome
noncomputable def updM {κ : Type} (f : κ → Option Nat) (i : κ) (z : Option Nat) : κ → Option Nat := by
  classical
  exact fun k => if k = i then z else f k
theorem updM_same {κ : Type} (f : κ → Option Nat) (i : κ) (z : Option Nat) : updM f i z i = z := by unfold updM; rw [if_pos rfl]
theorem updM_other {κ : Type} (f : κ → Option Nat) {i k : κ} (z : Option Nat) (h : k ≠ i) : updM f i z k = f k := by unfold updM; rw [if_neg h]
section
variable {κ : Type} {Y : Ky κ} {mk : Option Nat → Value} {T V : TypeId} {W W' : World} {M n n' : Nat} {o : κ → Option Nat}
theorem MAt.of_block (h : MAt Y mk W M n o) (hb : W'.heap[M]? = W.heap[M]?) : MAt Y mk W' M n o := by
  obtain ⟨D, ⟨es, clock, h1, F, hs, hD⟩, h2⟩ := h
  exact ⟨D, ⟨es, clock, hb.trans h1, F, hs, hD⟩, h2⟩
theorem MAt.lt (h : MAt Y mk W M n o) : M < W.heap.size := by
  obtain ⟨D, h1, _⟩ := h
  exact h1.lt
theorem MAt.mono (h : MAt Y mk W M n o) (hn : n ≤ n') : MAt Y mk W M n' o := by
  obtain ⟨D, h1, h2⟩ := h
  exact ⟨D, h1.mono hn, h2⟩
theorem MAt.made (W : World) : MAt Y mk (W.alloc (.map #[] 0)) W.heap.size 0 (fun _ => none) :=
  ⟨.map [], World.ownsMap_made W _ _ _, fun _ => atKey_of_not_has (by simp [has_eq]) _, fun i => by simp [has_eq]⟩
/-- A map is no block of cells. -/
theorem MAt.no_cell (h : MAt Y mk W M n o) (i : Nat) : W.cell? ⟨M, i, none⟩ = none := by
  obtain ⟨D, ⟨es, clock, h1, _⟩, _⟩ := h
  simp [World.cell?, h1]
theorem MAt.ne (h : MAt Y mk W M n o) {b i : Nat} {v : Value} (hc : W.cell? ⟨b, i, none⟩ = some v) : M ≠ b := fun e => by
  subst e
  rw [h.no_cell i] at hc
  cases hc
set_option maxRecDepth 100000 in
theorem MAt.look (ht : Mt Y mk T V) (h : MAt Y mk W M n o) (i : κ) (hi : Y.ok i) :
    (Instr.lookup T (.map (some M)) (Y.kv i) false).run Try.prog W = .ok (mk (o i)) W := by
  obtain ⟨D, h1, h2, _⟩ := h
  obtain ⟨v, ps, hrun, hv⟩ := h1.lookup Y.law ht.un (ht.z W) (rdB_of ht.im none) (Y.key i hi)
  rw [hrun]
  obtain ⟨o', rfl, hz⟩ := rdB_inv hv
  simp only [Prod.mk.injEq] at hz
  have h4 := hz.1
  rw [show (DataW.lit (H := Unit) (.int .i64 (encF none))) = .lit (.int .i64 0) from rfl, h2 i] at h4
  have : encF (o i) = encF o' := by injection h4 with h4; injection h4
  rw [encF_inj this]
theorem MAt.store (ht : Mt Y mk T V) (h : MAt Y mk W M n o) (i : κ) (hi : Y.ok i) (b : Nat) (hn : n < maxLen) :
    ∃ W', (Instr.mapUpdate T (.map (some M)) (Y.kv i) (mk (some b))).run Try.prog W = .ok () W' ∧ MAt Y mk W' M (n + 1) (updM o i (some b)) ∧ W.grownBy W' (some M) ∧ W'.heap.size = W.heap.size := by
  obtain ⟨D, h1, h2, h3⟩ := h
  obtain ⟨W', hrun, hown, hg⟩ := h1.store Y.law ht.un hn (Y.key i hi) (rdB_of ht.im (some b))
  refine ⟨W', hrun, ⟨_, hown, fun k => ?_, fun k => ?_⟩, hg.grown, ?_⟩
  · by_cases e : k = i
    · subst e
      rw [atKey_put_same h1.isMap (Y.lit k), updM_same]
    · rw [atKey_put_other (fun x => e (Y.inj x)), updM_other _ _ e]; exact h2 k
  · by_cases e : k = i
    · subst e
      rw [has_put_same h1.isMap (Y.lit k), updM_same]; rfl
    · rw [has_put_other (fun x => e (Y.inj x)), updM_other _ _ e]; exact h3 k
  · obtain ⟨es, clock, es', clock', hb, hw⟩ := hg
    rw [hw]; simp [setBlock]
theorem MAt.drop (ht : Mt Y mk T V) (h : MAt Y mk W M n o) (i : κ) (hi : Y.ok i) (ty : TypeId) :
    ∃ W', (Builtin.delete_ #[T, Y.T] ty #[.map (some M), Y.kv i]).run Try.prog W = .ok (.tuple #[]) W' ∧ MAt Y mk W' M n (updM o i none) ∧ W.grownBy W' (some M) ∧ W'.heap.size = W.heap.size := by
  obtain ⟨D, h1, h2, h3⟩ := h
  obtain ⟨W', hrun, hown, hg⟩ := h1.drop Y.law ht.un (Y.key i hi) ty
  refine ⟨W', hrun, ⟨_, hown, fun k => ?_, fun k => ?_⟩, hg.grown, ?_⟩
  · by_cases e : k = i
    · subst e
      rw [atKey_del_same, updM_same]; rfl
    · rw [atKey_del_other (fun x => e (Y.inj x)), updM_other _ _ e]; exact h2 k
  · by_cases e : k = i
    · subst e
      rw [has_del_same, updM_same]; rfl
    · rw [has_del_other (fun x => e (Y.inj x)), updM_other _ _ e]; exact h3 k
  · obtain ⟨es, clock, es', clock', hb, hw⟩ := hg
    rw [hw]; simp [setBlock]
end
end Go.Proofs.Ytgabdlnbencglaa
