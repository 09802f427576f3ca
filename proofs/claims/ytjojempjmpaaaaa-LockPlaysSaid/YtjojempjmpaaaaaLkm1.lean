/-
  MAPS OF BLOCKS BY ANY KEY: maps of pointers, maps of maps; what each operation does.
  A QUEUE OF WAITERS: linked both ways; put, drop.
  A QUEUE OF WAITERS: drop.
-/
import Derived.Test.YtjojempjmpaaaaaProg
import Derived.Maps.OwnSet
import Derived.Maps.Views
import Derived.StringKeys
import Derived.Lib.Hide
import Derived.Below
import Derived.Carry
import Derived.Deep.RegionHeld3
import Derived.BigRegion
import Derived.BigQuiet
import Derived.WalkSpells
import Derived.Laws.OwnMore
import Derived.Lib.BufferWrite
import Derived.StillTailTactics
import Derived.Deep.Cut
import Derived.Deep.CutRange
import Derived.Deep.DeepCutAuto
import Derived.Deep.CutBlock
namespace Go.Proofs.Ytjojempjmpaaaaa
open Go.RowKit Go.Maps Go.ChangeMaps Go.MapKept Go.WideElems Go.WideMaps
/-- How a block reads: by its number. -/
def encF : Option Nat → Int
  | none => 0
  | some b => (b : Int) + 1
theorem encF_inj {a b : Option Nat} (h : encF a = encF b) : a = b := by
  cases a <;> cases b <;> simp [encF] at h ⊢ <;> omega
/-- A pointer to a block; a map. -/
def pV : Option Nat → Value
  | none => .pointer none
  | some b => .pointer (some ⟨b, 0, none⟩)
theorem pV_inj {a b : Option Nat} (h : pV a = pV b) : a = b := by
  cases a <;> cases b <;> simp [pV] at h ⊢
  exact h
def mV : Option Nat → Value
  | none => .map none
  | some b => .map (some b)
theorem mV_inj {a b : Option Nat} (h : mV a = mV b) : a = b := by
  cases a <;> cases b <;> simp [mV] at h ⊢
  exact h
/-- Values that stand for blocks. -/
structure Mk (mk : Option Nat → Value) : Prop where
  inj : ∀ {a b : Option Nat}, mk a = mk b → a = b
theorem pMk : Mk pV := ⟨pV_inj⟩
theorem mMk : Mk mV := ⟨mV_inj⟩
noncomputable def rdB (mk : Option Nat → Value) {H : Type} (v : Value) : Option (DataW H × List MemPlace) := by
  classical
  exact if h : ∃ o, v = mk o then some (.lit (.int .i64 (encF h.choose)), []) else none
section
variable {mk : Option Nat → Value}
theorem rdB_of (hm : Mk mk) {H : Type} (o : Option Nat) : rdB mk (H := H) (mk o) = some (.lit (.int .i64 (encF o)), []) := by
  have h : ∃ o', mk o = mk o' := ⟨o, rfl⟩
  unfold rdB
  rw [dif_pos h, ← hm.inj h.choose_spec]
theorem rdB_inv {H : Type} {v : Value} {z : DataW H × List MemPlace} (h : rdB mk v = some z) : ∃ o, v = mk o ∧ z = (.lit (.int .i64 (encF o)), []) := by
  unfold rdB at h
  split at h
  · rename_i hx
    exact ⟨_, hx.choose_spec, (Option.some.inj h).symm⟩
  · cases h
end
/-- A kind of key: as a value, as it is compared. -/
structure Ky (κ : Type) where
  T : TypeId
  kv : κ → Value
  kl : κ → Lit
  law : Keyed Try.prog T
  inj : ∀ {a b : κ}, kl a = kl b → a = b
  lit : ∀ a, WideAt.IsKeyLit (kl a)
  ok : κ → Prop
  key : ∀ a, ok a → keyOf Try.prog T (kv a) = some (kl a)
def iKy : Ky Int := ⟨3, fun i => .int .i64 i, fun i => .int .i64 i, int_keyed Try.underlying3, fun h => by injection h, fun _ => trivial, fun i => (Lit.int .i64 i).wf = true, fun _ hi => keyOf_int_mk Try.underlying3 hi⟩
def sKy : Ky ByteArray := ⟨9, fun s => .string s, fun s => .string s.data.toList, string_keyed Try.underlying9, fun {a b} h => by
  injection h with h
  exact ByteArray.ext (Array.toList_inj.1 h), fun _ => trivial, fun s => s.size ≤ maxLen, fun _ hs => keyOf_string_mk Try.underlying9 hs⟩
/-- A kind of map: its type, what it holds. -/
structure Mt {κ : Type} (Y : Ky κ) (mk : Option Nat → Value) (T V : TypeId) : Prop where
  un : Try.prog.underlying T = some (.map Y.T V)
  z : ∀ w, (zeroValue V).run Try.prog w = .ok (mk none) w
  im : Mk mk
theorem lockMap : Mt sKy pV 56 76 := ⟨Try.underlying56, fun w => by
  have h : (Try.prog.info? 76).map (·.zero) = some (some (.pointer none)) := by kernel_rfl
  obtain ⟨i, hi, hz⟩ := Option.map_eq_some_iff.1 h
  simp [zeroValue, typeInfo, hi, hz, pV], pMk⟩
theorem waiterMap : Mt sKy pV 73 72 := ⟨Try.underlying73, fun w => by
  have h : (Try.prog.info? 72).map (·.zero) = some (some (.pointer none)) := by kernel_rfl
  obtain ⟨i, hi, hz⟩ := Option.map_eq_some_iff.1 h
  simp [zeroValue, typeInfo, hi, hz, pV], pMk⟩
theorem waitsMap : Mt iKy pV 58 72 := ⟨Try.underlying58, fun w => by
  have h : (Try.prog.info? 72).map (·.zero) = some (some (.pointer none)) := by kernel_rfl
  obtain ⟨i, hi, hz⟩ := Option.map_eq_some_iff.1 h
  simp [zeroValue, typeInfo, hi, hz, pV], pMk⟩
theorem heldMap : Mt iKy mV 57 73 := ⟨Try.underlying57, fun w => by
  have h : (Try.prog.info? 73).map (·.zero) = some (some (.map none)) := by kernel_rfl
  obtain ⟨i, hi, hz⟩ := Option.map_eq_some_iff.1 h
  simp [zeroValue, typeInfo, hi, hz, mV], mMk⟩
/-- Block M is a map of blocks: those of o. -/
def MAt {κ : Type} (Y : Ky κ) (mk : Option Nat → Value) (W : World) (M n : Nat) (o : κ → Option Nat) : Prop :=
  ∃ D, W.ownsMap Try.prog Y.T (rdB mk (H := Unit)) M n D ∧ (∀ i, D.atKey (Y.kl i) (.lit (.int .i64 0)) = .lit (.int .i64 (encF (o i)))) ∧ ∀ i, has D (Y.kl i) = (o i).isSome
noncomputable def updM {κ : Type} (f : κ → Option Nat) (i : κ) (z : Option Nat) : κ → Option Nat := by
  classical
  exact fun k => if k = i then z else f k
theorem updM_same {κ : Type} (f : κ → Option Nat) (i : κ) (z : Option Nat) : updM f i z i = z := by unfold updM; rw [if_pos rfl]
theorem updM_other {κ : Type} (f : κ → Option Nat) {i k : κ} (z : Option Nat) (h : k ≠ i) : updM f i z k = f k := by unfold updM; rw [if_neg h]
section
variable {κ : Type} {Y : Ky κ} {mk : Option Nat → Value} {T V : TypeId} {W W' : World} {M n n' : Nat} {o : κ → Option Nat}
theorem MAt.of_block (h : MAt Y mk W M n o) (hb : W'.heap[M]? = W.heap[M]?) : MAt Y mk W' M n o := by
  obtain ⟨D, ⟨es, clock, h1, F, hs, hD⟩, h2⟩ := h
  exact ⟨D, ⟨es, clock, hb.trans h1, F, hs, hD⟩, h2⟩
theorem MAt.lt (h : MAt Y mk W M n o) : M < W.heap.size := by
  obtain ⟨D, h1, _⟩ := h
  exact h1.lt
theorem MAt.mono (h : MAt Y mk W M n o) (hn : n ≤ n') : MAt Y mk W M n' o := by
  obtain ⟨D, h1, h2⟩ := h
  exact ⟨D, h1.mono hn, h2⟩
theorem MAt.made (W : World) : MAt Y mk (W.alloc (.map #[] 0)) W.heap.size 0 (fun _ => none) :=
  ⟨.map [], World.ownsMap_made W _ _ _, fun _ => atKey_of_not_has (by simp [has_eq]) _, fun i => by simp [has_eq]⟩
/-- A map is no block of cells. -/
theorem MAt.no_cell (h : MAt Y mk W M n o) (i : Nat) : W.cell? ⟨M, i, none⟩ = none := by
  obtain ⟨D, ⟨es, clock, h1, _⟩, _⟩ := h
  simp [World.cell?, h1]
theorem MAt.ne (h : MAt Y mk W M n o) {b i : Nat} {v : Value} (hc : W.cell? ⟨b, i, none⟩ = some v) : M ≠ b := fun e => by
  subst e
  rw [h.no_cell i] at hc
  cases hc
set_option maxRecDepth 100000 in
theorem MAt.look (ht : Mt Y mk T V) (h : MAt Y mk W M n o) (i : κ) (hi : Y.ok i) :
    (Instr.lookup T (.map (some M)) (Y.kv i) false).run Try.prog W = .ok (mk (o i)) W := by
  obtain ⟨D, h1, h2, _⟩ := h
  obtain ⟨v, ps, hrun, hv⟩ := h1.lookup Y.law ht.un (ht.z W) (rdB_of ht.im none) (Y.key i hi)
  rw [hrun]
  obtain ⟨o', rfl, hz⟩ := rdB_inv hv
  simp only [Prod.mk.injEq] at hz
  have h4 := hz.1
  rw [show (DataW.lit (H := Unit) (.int .i64 (encF none))) = .lit (.int .i64 0) from rfl, h2 i] at h4
  have : encF (o i) = encF o' := by injection h4 with h4; injection h4
  rw [encF_inj this]
theorem MAt.store (ht : Mt Y mk T V) (h : MAt Y mk W M n o) (i : κ) (hi : Y.ok i) (b : Nat) (hn : n < maxLen) :
    ∃ W', (Instr.mapUpdate T (.map (some M)) (Y.kv i) (mk (some b))).run Try.prog W = .ok () W' ∧ MAt Y mk W' M (n + 1) (updM o i (some b)) ∧ W.grownBy W' (some M) ∧ W'.heap.size = W.heap.size := by
  obtain ⟨D, h1, h2, h3⟩ := h
  obtain ⟨W', hrun, hown, hg⟩ := h1.store Y.law ht.un hn (Y.key i hi) (rdB_of ht.im (some b))
  refine ⟨W', hrun, ⟨_, hown, fun k => ?_, fun k => ?_⟩, hg.grown, ?_⟩
  · by_cases e : k = i
    · subst e
      rw [atKey_put_same h1.isMap (Y.lit k), updM_same]
    · rw [atKey_put_other (fun x => e (Y.inj x)), updM_other _ _ e]; exact h2 k
  · by_cases e : k = i
    · subst e
      rw [has_put_same h1.isMap (Y.lit k), updM_same]; rfl
    · rw [has_put_other (fun x => e (Y.inj x)), updM_other _ _ e]; exact h3 k
  · obtain ⟨es, clock, es', clock', hb, hw⟩ := hg
    rw [hw]; simp [setBlock]
theorem MAt.drop (ht : Mt Y mk T V) (h : MAt Y mk W M n o) (i : κ) (hi : Y.ok i) (ty : TypeId) :
    ∃ W', (Builtin.delete_ #[T, Y.T] ty #[.map (some M), Y.kv i]).run Try.prog W = .ok (.tuple #[]) W' ∧ MAt Y mk W' M n (updM o i none) ∧ W.grownBy W' (some M) ∧ W'.heap.size = W.heap.size := by
  obtain ⟨D, h1, h2, h3⟩ := h
  obtain ⟨W', hrun, hown, hg⟩ := h1.drop Y.law ht.un (Y.key i hi) ty
  refine ⟨W', hrun, ⟨_, hown, fun k => ?_, fun k => ?_⟩, hg.grown, ?_⟩
  · by_cases e : k = i
    · subst e
      rw [atKey_del_same, updM_same]; rfl
    · rw [atKey_del_other (fun x => e (Y.inj x)), updM_other _ _ e]; exact h2 k
  · by_cases e : k = i
    · subst e
      rw [has_del_same, updM_same]; rfl
    · rw [has_del_other (fun x => e (Y.inj x)), updM_other _ _ e]; exact h3 k
  · obtain ⟨es, clock, es', clock', hb, hw⟩ := hg
    rw [hw]; simp [setBlock]
end
end Go.Proofs.Ytjojempjmpaaaaa

namespace Go.Proofs.Ytjojempjmpaaaaa
open Go.RowKit
theorem block_lt {w : World} {p : Addr} {v : Value} (h : w.cell? p = some v) : p.block < w.heap.size := by
  rcases Nat.lt_or_ge p.block w.heap.size with h1 | h1
  · exact h1
  · simp [World.cell?, Array.getElem?_eq_none h1] at h
theorem keep_cell {w w' : World} {p : Addr} {v : Value} (h : Below w.heap.size w w') (hc : w.cell? p = some v) : w'.cell? p = some v :=
  (h.cell (block_lt hc)).trans hc
theorem sc_ne {W : World} {g i b j : Nat} {u v : Value} (h : W.cell? ⟨b, j, none⟩ = some v) (hn : b ≠ g ∨ j ≠ i) : (W.setCell ⟨g, i, none⟩ u).cell? ⟨b, j, none⟩ = some v := by
  rw [World.cell?_setCell_other _ _ _ _ (fun e => by
    injection e with e1 e2
    rcases hn with q | q
    · exact q e1.symm
    · exact q e2.symm)]
  exact h
theorem sc_eq {W : World} {g i : Nat} {u v : Value} (h : W.cell? ⟨g, i, none⟩ = some v) : (W.setCell ⟨g, i, none⟩ u).cell? ⟨g, i, none⟩ = some u := World.cell?_setCell_same _ _ _ h
theorem size_sc (W : World) (p : Addr) (v : Value) : (W.setCell p v).heap.size = W.heap.size := by simp [World.setCell]
/-- All but these cells. -/
structure Cf (W X : World) (S : Nat → Nat → Prop) : Prop where
  os : X.os = W.os
  tape : X.tape = W.tape
  output : X.output = W.output
  size : W.heap.size ≤ X.heap.size
  cell : ∀ b i v, ¬ S b i → W.cell? ⟨b, i, none⟩ = some v → X.cell? ⟨b, i, none⟩ = some v
  frz : ∀ b i, b < W.heap.size → (∃ j, ¬ S b j) → X.frozen? ⟨b, i, none⟩ = W.frozen? ⟨b, i, none⟩
  block : ∀ b, b < W.heap.size → (∀ i, ¬ S b i) → X.heap[b]? = W.heap[b]?
section
variable {W X Y : World} {S S' : Nat → Nat → Prop}
theorem Cf.refl (W : World) (S : Nat → Nat → Prop) : Cf W W S := ⟨rfl, rfl, rfl, Nat.le_refl _, fun _ _ _ _ h => h, fun _ _ _ _ => rfl, fun _ _ _ => rfl⟩
theorem Cf.set {g i : Nat} {v : Value} (h : Cf W X S) (hg : S g i) : Cf W (X.setCell ⟨g, i, none⟩ v) S := by
  have hb := Lib.grownBy_setCell X g i v
  refine ⟨hb.os.trans h.os, hb.tape.trans h.tape, hb.output.trans h.output, Nat.le_trans h.size hb.size, fun b j u hn hc => sc_ne (h.cell b j u hn hc) ?_, fun b j hj hn => by rw [World.frozen?_setCell]; exact h.frz b j hj hn, fun b hj hn => (hb.block b (Nat.lt_of_lt_of_le hj h.size) (fun e => ?_)).trans (h.block b hj hn)⟩
  · by_cases e : b = g
    · right
      intro e2
      subst e; subst e2
      exact hn hg
    · exact .inl e
  · injection e with e
    subst e
    exact hn i hg
theorem Cf.trans (h : Cf W X S) (g : Cf X Y S) : Cf W Y S :=
  ⟨g.os.trans h.os, g.tape.trans h.tape, g.output.trans h.output, Nat.le_trans h.size g.size, fun b i v hn hc => g.cell b i v hn (h.cell b i v hn hc), fun b i hb hn => (g.frz b i (Nat.lt_of_lt_of_le hb h.size) hn).trans (h.frz b i hb hn), fun b hb hn => (g.block b (Nat.lt_of_lt_of_le hb h.size) hn).trans (h.block b hb hn)⟩
theorem Cf.sub (h : Cf W X S) (hs : ∀ b i, S b i → b < W.heap.size → S' b i) : Cf W X S' :=
  ⟨h.os, h.tape, h.output, h.size, fun b i v hn hc => h.cell b i v (fun q => hn (hs b i q (block_lt (p := ⟨b, i, none⟩) hc))) hc, fun b i hb hn => by
    obtain ⟨j, hj⟩ := hn
    exact h.frz b i hb ⟨j, fun q => hj (hs b j q hb)⟩, fun b hb hn => h.block b hb (fun i q => hn i (hs b i q hb))⟩
theorem Cf.below (h : Below W.heap.size W X) : Cf W X S :=
  ⟨h.os, h.tape, h.output, h.size, fun _ _ _ _ hc => keep_cell h hc, fun b i hb _ => h.frozen (p := ⟨b, i, none⟩) hb, fun b hb _ => h.block b hb⟩
end
/-- A map was written. -/
theorem Cf.grown {W X : World} {M : Nat} (h : W.grownBy X (some M)) : Cf W X (fun b _ => b = M) :=
  ⟨h.os, h.tape, h.output, h.size, fun b i v hn hc => (World.cell?_of_block (a := ⟨b, i, none⟩) (h.block b (block_lt (p := ⟨b, i, none⟩) hc) (fun e => hn (by injection e)))).trans hc, fun b i hb hn => World.frozen?_of_block (a := ⟨b, i, none⟩) (h.block b hb (fun e => by
    obtain ⟨_, hj⟩ := hn
    exact hj (by injection e))), fun b hb hn => h.block b hb (fun e => hn 0 (by injection e))⟩
/-- A queue: its ends, and each one's neighbours. -/
structure QAt (W : World) (K off : Nat) (q : List Nat) : Prop where
  f : W.cell? ⟨K, off, none⟩ = some (pV q.head?)
  l : W.cell? ⟨K, off + 1, none⟩ = some (pV q.getLast?)
  a : ∀ i x, q[i]? = some x → W.cell? ⟨x, 3, none⟩ = some (pV (if i = 0 then none else q[i - 1]?))
  b : ∀ i x, q[i]? = some x → W.cell? ⟨x, 4, none⟩ = some (pV q[i + 1]?)
  nd : q.Nodup
  kq : K ∉ q
  fk : ∀ i, W.frozen? ⟨K, i, none⟩ = false
  fq : ∀ x ∈ q, ∀ i, W.frozen? ⟨x, i, none⟩ = false
section
variable {W X : World} {K off w : Nat} {q q1 q2 : List Nat} {S : Nat → Nat → Prop}
theorem QAt.lt (h : QAt W K off q) : K < W.heap.size := block_lt (p := ⟨K, off, none⟩) h.f
theorem QAt.ltq (h : QAt W K off q) {x : Nat} (hx : x ∈ q) : x < W.heap.size := by
  obtain ⟨i, hi, e⟩ := List.getElem_of_mem hx
  exact block_lt (p := ⟨x, 3, none⟩) (h.a i x (by rw [List.getElem?_eq_getElem hi, e]))
theorem QAt.keep (h : QAt W K off q) (hc : Cf W X S) (h1 : ¬ S K off ∧ ¬ S K (off + 1)) (h2 : ∀ x ∈ q, ¬ S x 3 ∧ ¬ S x 4) : QAt X K off q :=
  ⟨hc.cell _ _ _ h1.1 h.f, hc.cell _ _ _ h1.2 h.l, fun i x hi => hc.cell _ _ _ (h2 x (List.mem_of_getElem? hi)).1 (h.a i x hi), fun i x hi => hc.cell _ _ _ (h2 x (List.mem_of_getElem? hi)).2 (h.b i x hi), h.nd, h.kq, fun i => (hc.frz K i h.lt ⟨_, h1.1⟩).trans (h.fk i), fun x hx i => (hc.frz x i (h.ltq hx) ⟨_, (h2 x hx).1⟩).trans (h.fq x hx i)⟩
theorem QAt.below (h : QAt W K off q) (hb : Below W.heap.size W X) : QAt X K off q := h.keep (S := fun _ _ => False) (Cf.below hb) ⟨id, id⟩ (fun _ _ => ⟨id, id⟩)
theorem nd_at {q : List Nat} (h : q.Nodup) {i j x : Nat} (hi : q[i]? = some x) (hj : q[j]? = some x) : i = j := by
  obtain ⟨h1, e1⟩ := List.getElem?_eq_some_iff.1 hi
  obtain ⟨h2, e2⟩ := List.getElem?_eq_some_iff.1 hj
  rcases Nat.lt_trichotomy i j with c | c | c
  · exact absurd (e1.trans e2.symm) (List.pairwise_iff_getElem.1 h i j h1 h2 c)
  · exact c
  · exact absurd (e2.trans e1.symm) (List.pairwise_iff_getElem.1 h j i h2 h1 c)
/-- What a put may write. -/
def PutS (K off w : Nat) (q : List Nat) : Nat → Nat → Prop := fun b i => (b = K ∧ (i = off ∨ i = off + 1)) ∨ (b = w ∧ (i = 3 ∨ i = 4)) ∨ (b ∈ q ∧ i = 4)
/-- What a drop may write. -/
def DropS (K off : Nat) (q : List Nat) : Nat → Nat → Prop := fun b i => (b = K ∧ (i = off ∨ i = off + 1)) ∨ (b ∈ q ∧ (i = 3 ∨ i = 4))
theorem app_one {q : List Nat} {w i x : Nat} (h : (q ++ [w])[i]? = some x) : (i < q.length ∧ q[i]? = some x) ∨ (i = q.length ∧ x = w) := by
  rw [List.getElem?_append] at h
  by_cases e : i < q.length
  · rw [if_pos e] at h; exact .inl ⟨e, h⟩
  · rw [if_neg e] at h
    by_cases e2 : i - q.length = 0
    · rw [e2] at h
      simp at h
      exact .inr ⟨by omega, h.symm⟩
    · rw [List.getElem?_eq_none (by simp; omega)] at h
      cases h
theorem app_lt {q : List Nat} {w i : Nat} (h : i < q.length) : (q ++ [w])[i]? = q[i]? := List.getElem?_append_left h
theorem app_at {q : List Nat} {w : Nat} : (q ++ [w])[q.length]? = some w := by rw [List.getElem?_append_right (Nat.le_refl _)]; simp
theorem app_gt {q : List Nat} {w : Nat} : (q ++ [w])[q.length + 1]? = none := List.getElem?_eq_none (by simp)
theorem QAt.put1 (h : QAt W K off q) (hw : w ∉ q) (hK : w ≠ K) {v3 v4 : Value} (c3 : W.cell? ⟨w, 3, none⟩ = some v3) (c4 : W.cell? ⟨w, 4, none⟩ = some v4) (fw : ∀ i, W.frozen? ⟨w, i, none⟩ = false) {z : Nat} (hz : q.getLast? = some z) :
    QAt ((((W.setCell ⟨w, 3, none⟩ (pV (some z))).setCell ⟨w, 4, none⟩ (pV none)).setCell ⟨z, 4, none⟩ (pV (some w))).setCell ⟨K, off + 1, none⟩ (pV (some w))) K off (q ++ [w]) ∧
    Cf W ((((W.setCell ⟨w, 3, none⟩ (pV (some z))).setCell ⟨w, 4, none⟩ (pV none)).setCell ⟨z, 4, none⟩ (pV (some w))).setCell ⟨K, off + 1, none⟩ (pV (some w))) (PutS K off w q) := by
  have hzm : z ∈ q := List.mem_of_getLast? hz
  have zw : z ≠ w := fun e => hw (e ▸ hzm)
  have zK : z ≠ K := fun e => h.kq (e ▸ hzm)
  have hl : 0 < q.length := List.length_pos_of_mem hzm
  have hzi : q[q.length - 1]? = some z := by rw [← List.getLast?_eq_getElem?]; exact hz
  have hne : ∀ i x, q[i]? = some x → x ≠ w ∧ x ≠ K := fun i x hi => ⟨fun e => hw (e ▸ List.mem_of_getElem? hi), fun e => h.kq (e ▸ List.mem_of_getElem? hi)⟩
  refine ⟨⟨?_, ?_, ?_, ?_, ?_, ?_, ?_, ?_⟩, ?_⟩
  · have eh : (q ++ [w]).head? = q.head? := by
      cases q with
      | nil => cases hz
      | cons _ _ => rfl
    rw [eh]
    exact sc_ne (sc_ne (sc_ne (sc_ne h.f (.inl hK.symm)) (.inl hK.symm)) (.inl zK.symm)) (.inr (by omega))
  · rw [List.getLast?_append]
    exact sc_eq (sc_ne (sc_ne (sc_ne h.l (.inl hK.symm)) (.inl hK.symm)) (.inl zK.symm))
  · intro i x hi
    rcases app_one hi with ⟨hlt, hq⟩ | ⟨rfl, rfl⟩
    · have e : (if i = 0 then none else (q ++ [w])[i - 1]?) = (if i = 0 then none else q[i - 1]?) := by
        by_cases e0 : i = 0
        · rw [if_pos e0, if_pos e0]
        · rw [if_neg e0, if_neg e0, app_lt (by omega)]
      rw [e]
      exact sc_ne (sc_ne (sc_ne (sc_ne (h.a i x hq) (.inl (hne i x hq).1)) (.inl (hne i x hq).1)) (.inr (by decide))) (.inl (hne i x hq).2)
    · rw [if_neg (by omega), app_lt (by omega), hzi]
      exact sc_ne (sc_ne (sc_ne (sc_eq c3) (.inr (by decide))) (.inr (by decide))) (.inl hK)
  · intro i x hi
    rcases app_one hi with ⟨hlt, hq⟩ | ⟨rfl, rfl⟩
    · by_cases e : x = z
      · subst e
        obtain rfl : i = q.length - 1 := nd_at h.nd hq hzi
        rw [show q.length - 1 + 1 = q.length by omega, app_at]
        exact sc_ne (sc_eq (sc_ne (sc_ne (h.b _ _ hq) (.inl zw)) (.inl zw))) (.inl zK)
      · have hi2 : i + 1 < q.length := by
          rcases Nat.lt_or_ge (i + 1) q.length with c | c
          · exact c
          · exfalso
            have : i = q.length - 1 := by omega
            rw [this] at hq
            rw [hq] at hzi
            exact e (Option.some.inj hzi)
        rw [app_lt hi2]
        exact sc_ne (sc_ne (sc_ne (sc_ne (h.b i x hq) (.inl (hne i x hq).1)) (.inl (hne i x hq).1)) (.inl e)) (.inl (hne i x hq).2)
    · rw [app_gt]
      exact sc_ne (sc_ne (sc_eq (sc_ne c4 (.inr (by decide)))) (.inl zw.symm)) (.inl hK)
  · rw [List.nodup_append]
    exact ⟨h.nd, by simp, fun a ha b hb e => by simp at hb; exact hw (by rw [← hb, ← e]; exact ha)⟩
  · intro c
    rcases List.mem_append.1 c with c | c
    · exact h.kq c
    · simp at c; exact hK c.symm
  · intro i
    simp only [World.frozen?_setCell]
    exact h.fk i
  · intro x hx i
    simp only [World.frozen?_setCell]
    rcases List.mem_append.1 hx with c | c
    · exact h.fq x c i
    · simp at c; rw [c]; exact fw i
  · exact (((Cf.refl W _).set (.inr (.inl ⟨rfl, .inl rfl⟩))).set (.inr (.inl ⟨rfl, .inr rfl⟩))).set (.inr (.inr ⟨hzm, rfl⟩)) |>.set (.inl ⟨rfl, .inr rfl⟩)
theorem QAt.put0 (h : QAt W K off []) (hK : w ≠ K) {v3 v4 : Value} (c3 : W.cell? ⟨w, 3, none⟩ = some v3) (c4 : W.cell? ⟨w, 4, none⟩ = some v4) (fw : ∀ i, W.frozen? ⟨w, i, none⟩ = false) :
    QAt ((((W.setCell ⟨w, 3, none⟩ (pV none)).setCell ⟨w, 4, none⟩ (pV none)).setCell ⟨K, off, none⟩ (pV (some w))).setCell ⟨K, off + 1, none⟩ (pV (some w))) K off [w] ∧
    Cf W ((((W.setCell ⟨w, 3, none⟩ (pV none)).setCell ⟨w, 4, none⟩ (pV none)).setCell ⟨K, off, none⟩ (pV (some w))).setCell ⟨K, off + 1, none⟩ (pV (some w))) (PutS K off w []) := by
  refine ⟨⟨?_, ?_, ?_, ?_, by simp, by simpa using hK.symm, ?_, ?_⟩, ?_⟩
  · exact sc_ne (sc_eq (sc_ne (sc_ne h.f (.inl hK.symm)) (.inl hK.symm))) (.inr (by omega))
  · exact sc_eq (sc_ne (sc_ne (sc_ne h.l (.inl hK.symm)) (.inl hK.symm)) (.inr (by omega)))
  · intro i x hi
    match i, hi with
    | 0, hi =>
      simp at hi
      subst hi
      exact sc_ne (sc_ne (sc_ne (sc_eq c3) (.inr (by decide))) (.inl hK)) (.inl hK)
  · intro i x hi
    match i, hi with
    | 0, hi =>
      simp at hi
      subst hi
      exact sc_ne (sc_ne (sc_eq (sc_ne c4 (.inr (by decide)))) (.inl hK)) (.inl hK)
  · intro i
    simp only [World.frozen?_setCell]
    exact h.fk i
  · intro x hx i
    simp only [World.frozen?_setCell]
    simp at hx; rw [hx]; exact fw i
  · exact (((Cf.refl W _).set (.inr (.inl ⟨rfl, .inl rfl⟩))).set (.inr (.inl ⟨rfl, .inr rfl⟩))).set (.inl ⟨rfl, .inl rfl⟩) |>.set (.inl ⟨rfl, .inr rfl⟩)
set_option maxRecDepth 100000 in
theorem put_any (h : QAt W K off q) (hw : w ∉ q) (hK : w ≠ K) {v3 v4 : Value} (c3 : W.cell? ⟨w, 3, none⟩ = some v3) (c4 : W.cell? ⟨w, 4, none⟩ = some v4) (fw : ∀ i, W.frozen? ⟨w, i, none⟩ = false) :
    Calls Try.prog 34 #[.pointer (some ⟨K, off, none⟩), .pointer (some ⟨w, 0, none⟩)] W fun e X => e = .returned (.tuple #[]) ∧ QAt X K off (q ++ [w]) ∧ Cf W X (PutS K off w q) := by
  have hKw : K ≠ w := fun e => hK e.symm
  have hf := h.f
  have hl := h.l
  have fk := h.fk
  cases hz : q.getLast? with
  | none =>
    have hq : q = [] := List.getLast?_eq_none_iff.1 hz
    subst hq
    have HP := Lib.hid (h.put0 hK c3 c4 fw)
    simp only [List.head?_nil, List.getLast?_nil, pV] at hf hl
    simp only [pV] at HP
    clear h hz hw
    go_enter Try.func34, Try.ntmps34
    go_wp2
    exact bodyPost_end (v := .tuple #[]) (results_none rfl _ _ _) rfl ⟨rfl, HP.out⟩
  | some z =>
    have hzm : z ∈ q := List.mem_of_getLast? hz
    have zw : z ≠ w := fun e => hw (e ▸ hzm)
    have wz : w ≠ z := fun e => zw e.symm
    have zK : z ≠ K := fun e => h.kq (e ▸ hzm)
    have Kz : K ≠ z := fun e => zK e.symm
    have hzi : q[q.length - 1]? = some z := by rw [← List.getLast?_eq_getElem?]; exact hz
    have z4 := h.b _ _ hzi
    have fz := h.fq z hzm
    have HP := Lib.hid (h.put1 hw hK c3 c4 fw hz)
    rw [hz] at hl
    simp only [pV] at hl
    simp only [pV] at HP
    generalize pV q[q.length - 1 + 1]? = vz at z4
    generalize pV q.head? = vh at hf
    clear h hz hw hzi hzm
    go_enter Try.func34, Try.ntmps34
    go_wp2
    exact bodyPost_end (v := .tuple #[]) (results_none rfl _ _ _) rfl ⟨rfl, HP.out⟩
end
end Go.Proofs.Ytjojempjmpaaaaa

namespace Go.Proofs.Ytjojempjmpaaaaa
open Go.RowKit
section
variable {W X : World} {K off w : Nat} {q1 q2 : List Nat}
/-- Where a drop writes. -/
def dropA (K off : Nat) (q1 : List Nat) : Nat × Nat := match q1.getLast? with | none => (K, off) | some a => (a, 4)
def dropB (K off : Nat) (q2 : List Nat) : Nat × Nat := match q2.head? with | none => (K, off + 1) | some b => (b, 3)
def dropW (W : World) (K off : Nat) (q1 q2 : List Nat) : World :=
  (W.setCell ⟨(dropA K off q1).1, (dropA K off q1).2, none⟩ (pV q2.head?)).setCell ⟨(dropB K off q2).1, (dropB K off q2).2, none⟩ (pV q1.getLast?)
theorem qe1 {i : Nat} (h : i < q1.length) : (q1 ++ w :: q2)[i]? = q1[i]? := List.getElem?_append_left h
theorem qe2 (j : Nat) : (q1 ++ w :: q2)[q1.length + 1 + j]? = q2[j]? := by
  rw [List.getElem?_append_right (by omega), show q1.length + 1 + j - q1.length = j + 1 by omega, List.getElem?_cons_succ]
theorem qe0 : (q1 ++ w :: q2)[q1.length]? = some w := by
  rw [List.getElem?_append_right (Nat.le_refl _), Nat.sub_self]; rfl
theorem pe1 {i : Nat} (h : i < q1.length) : (q1 ++ q2)[i]? = q1[i]? := List.getElem?_append_left h
theorem pe2 (j : Nat) : (q1 ++ q2)[q1.length + j]? = q2[j]? := by
  rw [List.getElem?_append_right (by omega), show q1.length + j - q1.length = j by omega]
theorem last_at : q1.getLast? = if q1.length = 0 then none else q1[q1.length - 1]? := by
  by_cases h : q1.length = 0
  · rw [if_pos h, List.length_eq_zero_iff.1 h]; rfl
  · rw [if_neg h, List.getLast?_eq_getElem?]
theorem head_at : q2.head? = q2[0]? := List.head?_eq_getElem?
theorem QAt.drop (h : QAt W K off (q1 ++ w :: q2)) : QAt (dropW W K off q1 q2) K off (q1 ++ q2) ∧ Cf W (dropW W K off q1 q2) (DropS K off (q1 ++ q2)) := by
  have hnd := h.nd
  have hnd2 : (q1 ++ q2).Nodup ∧ w ∉ q1 ++ q2 := by
    rw [List.nodup_append] at hnd ⊢
    obtain ⟨n1, n2, n3⟩ := hnd
    rw [List.nodup_cons] at n2
    refine ⟨⟨n1, n2.2, fun a ha b hb => n3 a ha b (List.mem_cons_of_mem _ hb)⟩, fun c => ?_⟩
    rcases List.mem_append.1 c with c | c
    · exact n3 w c w (by simp) rfl
    · exact n2.1 c
  have sub : ∀ x, x ∈ q1 ++ q2 → x ∈ q1 ++ w :: q2 := fun x hx => by
    rcases List.mem_append.1 hx with c | c
    · exact List.mem_append_left _ c
    · exact List.mem_append_right _ (List.mem_cons_of_mem _ c)
  have kq : K ∉ q1 ++ q2 := fun c => h.kq (sub K c)
  have hK : ∀ x, x ∈ q1 ++ q2 → x ≠ K := fun x hx e => kq (e ▸ hx)
  have h12 : ∀ a b, a ∈ q1 → b ∈ q2 → a ≠ b := fun a b ha hb => (List.nodup_append.1 hnd2.1).2.2 a ha b hb
  -- what is not where a drop writes stays
  have hA : ∀ {a}, q1.getLast? = some a → a ∈ q1 := fun e => List.mem_of_getLast? e
  have hB : ∀ {b}, q2.head? = some b → b ∈ q2 := fun e => List.mem_of_head? e
  have st : ∀ {b i : Nat} {v : Value}, W.cell? ⟨b, i, none⟩ = some v → (b ≠ (dropA K off q1).1 ∨ i ≠ (dropA K off q1).2) → (b ≠ (dropB K off q2).1 ∨ i ≠ (dropB K off q2).2) → (dropW W K off q1 q2).cell? ⟨b, i, none⟩ = some v := fun hc n1 n2 => sc_ne (sc_ne hc n1) n2
  have mA : DropS K off (q1 ++ q2) (dropA K off q1).1 (dropA K off q1).2 := by
    unfold dropA
    cases e : q1.getLast? with
    | none => exact .inl ⟨rfl, .inl rfl⟩
    | some a => exact .inr ⟨List.mem_append_left _ (hA e), .inr rfl⟩
  have mB : DropS K off (q1 ++ q2) (dropB K off q2).1 (dropB K off q2).2 := by
    unfold dropB
    cases e : q2.head? with
    | none => exact .inl ⟨rfl, .inr rfl⟩
    | some a => exact .inr ⟨List.mem_append_right _ (hB e), .inl rfl⟩
  -- who is met by the first write, by the second one
  have neA3 : ∀ x, x ∈ q1 ++ q2 → (x ≠ (dropA K off q1).1 ∨ 3 ≠ (dropA K off q1).2) := fun x hx => by
    unfold dropA
    cases e : q1.getLast? with
    | none => exact .inl (hK x hx)
    | some a => exact .inr (by simp)
  have neB4 : ∀ x, x ∈ q1 ++ q2 → (x ≠ (dropB K off q2).1 ∨ 4 ≠ (dropB K off q2).2) := fun x hx => by
    unfold dropB
    cases e : q2.head? with
    | none => exact .inl (hK x hx)
    | some a => exact .inr (by simp)
  refine ⟨⟨?_, ?_, ?_, ?_, hnd2.1, kq, ?_, ?_⟩, ?_⟩
  · -- the first one
    have nB : (K ≠ (dropB K off q2).1 ∨ off ≠ (dropB K off q2).2) := by
      unfold dropB
      cases e : q2.head? with
      | none => exact .inr (by simp)
      | some b => exact .inl (hK b (List.mem_append_right _ (hB e))).symm
    cases e : q1.getLast? with
    | none =>
      have e0 : q1 = [] := List.getLast?_eq_none_iff.1 e
      subst e0
      have e2 : dropA K off [] = (K, off) := rfl
      unfold dropW
      rw [e2]
      rw [List.nil_append]
      exact sc_ne (sc_eq h.f) nB
    | some a =>
      have hne : q1 ≠ [] := fun c => by rw [c] at e; cases e
      have hf := h.f
      have e8 : ∀ r : List Nat, (q1 ++ r).head? = q1.head? := fun r => by
        cases q1 with
        | nil => exact absurd rfl hne
        | cons _ _ => rfl
      rw [e8] at hf ⊢
      refine st hf ?_ nB
      unfold dropA
      rw [e]
      exact .inl (hK a (List.mem_append_left _ (hA e))).symm
  · have nA : (K ≠ (dropA K off q1).1 ∨ off + 1 ≠ (dropA K off q1).2) := by
      unfold dropA
      cases e : q1.getLast? with
      | none => exact .inr (by simp)
      | some b => exact .inl (hK b (List.mem_append_left _ (hA e))).symm
    cases e : q2.head? with
    | none =>
      have e0 : q2 = [] := by cases q2 with
        | nil => rfl
        | cons _ _ => cases e
      subst e0
      have e2 : dropB K off [] = (K, off + 1) := rfl
      unfold dropW
      rw [e2, List.append_nil]
      exact sc_eq (sc_ne h.l nA)
    | some b =>
      have hne : q2 ≠ [] := fun c => by rw [c] at e; cases e
      have hl := h.l
      have e3 : (q1 ++ w :: q2).getLast? = (q1 ++ q2).getLast? := by
        rw [List.getLast?_append, List.getLast?_append, List.getLast?_cons]
        cases e4 : q2.getLast? with
        | none => exact absurd (List.getLast?_eq_none_iff.1 e4) hne
        | some z => rfl
      rw [e3] at hl
      refine st hl nA ?_
      unfold dropB
      rw [e]
      exact .inl (hK b (List.mem_append_right _ (hB e))).symm
  · intro i x hi
    have hx := List.mem_of_getElem? hi
    by_cases hlt : i < q1.length
    · rw [pe1 hlt] at hi
      have ho := h.a i x (by rw [qe1 hlt]; exact hi)
      have e : (if i = 0 then none else (q1 ++ w :: q2)[i - 1]?) = (if i = 0 then none else (q1 ++ q2)[i - 1]?) := by
        by_cases e0 : i = 0
        · rw [if_pos e0, if_pos e0]
        · rw [if_neg e0, if_neg e0, qe1 (by omega), pe1 (by omega)]
      rw [e] at ho
      refine st ho (neA3 x hx) ?_
      unfold dropB
      cases e2 : q2.head? with
      | none => exact .inl (hK x hx)
      | some b => exact .inl (h12 x b (List.mem_of_getElem? hi) (hB e2))
    · obtain ⟨j, rfl⟩ : ∃ j, i = q1.length + j := ⟨i - q1.length, by omega⟩
      rw [pe2] at hi
      have ho := h.a (q1.length + 1 + j) x (by rw [qe2]; exact hi)
      rw [if_neg (by omega)] at ho
      by_cases hj : j = 0
      · subst hj
        have e2 : q2.head? = some x := by rw [head_at]; exact hi
        have e3 : dropB K off q2 = (x, 3) := by unfold dropB; rw [e2]
        have e4 : q1.getLast? = (if q1.length + 0 = 0 then none else (q1 ++ q2)[q1.length + 0 - 1]?) := by
          rw [last_at, Nat.add_zero]
          by_cases e0 : q1.length = 0
          · rw [if_pos e0, if_pos e0]
          · rw [if_neg e0, if_neg e0, pe1 (by omega)]
        rw [← e4]
        unfold dropW
        rw [e3]
        exact sc_eq (sc_ne ho (neA3 x hx))
      · obtain ⟨m, rfl⟩ : ∃ m, j = m + 1 := ⟨j - 1, by omega⟩
        rw [if_neg (by omega), show q1.length + (m + 1) - 1 = q1.length + m by omega, pe2]
        rw [show q1.length + 1 + (m + 1) - 1 = q1.length + 1 + m by omega, qe2] at ho
        refine st ho (neA3 x hx) ?_
        unfold dropB
        cases e2 : q2.head? with
        | none => exact .inl (hK x hx)
        | some b =>
          refine .inl (fun c => ?_)
          have c : x = b := c
          rw [head_at, ← c] at e2
          have := nd_at (List.nodup_append.1 hnd2.1).2.1 hi e2
          omega
  · intro i x hi
    have hx := List.mem_of_getElem? hi
    by_cases hlt : i < q1.length
    · rw [pe1 hlt] at hi
      have ho := h.b i x (by rw [qe1 hlt]; exact hi)
      by_cases hl : i + 1 < q1.length
      · rw [pe1 hl]
        rw [qe1 hl] at ho
        refine st ho ?_ (neB4 x hx)
        unfold dropA
        cases e2 : q1.getLast? with
        | none => exact .inl (hK x hx)
        | some a =>
          refine .inl (fun c => ?_)
          have c : x = a := c
          rw [last_at, if_neg (by omega), ← c] at e2
          have := nd_at (List.nodup_append.1 hnd2.1).1 hi e2
          omega
      · have e0 : i + 1 = q1.length + 0 := by omega
        have e2 : q1.getLast? = some x := by
          rw [last_at, if_neg (by omega), show q1.length - 1 = i by omega]; exact hi
        have e3 : dropA K off q1 = (x, 4) := by unfold dropA; rw [e2]
        rw [e0, pe2, ← head_at]
        have nb := neB4 x hx
        unfold dropW
        rw [e3]
        exact sc_ne (sc_eq ho) nb
    · obtain ⟨j, rfl⟩ : ∃ j, i = q1.length + j := ⟨i - q1.length, by omega⟩
      rw [pe2] at hi
      have ho := h.b (q1.length + 1 + j) x (by rw [qe2]; exact hi)
      rw [show q1.length + 1 + j + 1 = q1.length + 1 + (j + 1) by omega, qe2] at ho
      rw [show q1.length + j + 1 = q1.length + (j + 1) by omega, pe2]
      refine st ho ?_ (neB4 x hx)
      unfold dropA
      cases e2 : q1.getLast? with
      | none => exact .inl (hK x hx)
      | some a => exact .inl (h12 a x (hA e2) (List.mem_of_getElem? hi)).symm
  · intro i
    unfold dropW
    simp only [World.frozen?_setCell]
    exact h.fk i
  · intro x hx i
    unfold dropW
    simp only [World.frozen?_setCell]
    exact h.fq x (sub x hx) i
  · exact ((Cf.refl W _).set mA).set mB
set_option maxRecDepth 100000 in
theorem drop_any (h : QAt W K off (q1 ++ w :: q2)) :
    Calls Try.prog 57 #[.pointer (some ⟨K, off, none⟩), .pointer (some ⟨w, 0, none⟩)] W fun e X => e = .returned (.tuple #[]) ∧ QAt X K off (q1 ++ q2) ∧ Cf W X (DropS K off (q1 ++ q2)) := by
  have HP := Lib.hid h.drop
  have wa := h.a q1.length w qe0
  have wb := h.b q1.length w qe0
  have ea : (if q1.length = 0 then none else (q1 ++ w :: q2)[q1.length - 1]?) = q1.getLast? := by
    rw [last_at]
    by_cases e0 : q1.length = 0
    · rw [if_pos e0, if_pos e0]
    · rw [if_neg e0, if_neg e0, qe1 (by omega)]
  have eb : (q1 ++ w :: q2)[q1.length + 1]? = q2.head? := by rw [show q1.length + 1 = q1.length + 1 + 0 by omega, qe2, head_at]
  rw [ea] at wa
  rw [eb] at wb
  have hf := h.f
  have hl := h.l
  have fk := h.fk
  have hnd := h.nd
  have hKw : K ≠ w := fun e => h.kq (by rw [e]; simp)
  have hwK : w ≠ K := fun e => hKw e.symm
  have hA : ∀ {a}, q1.getLast? = some a → (∀ i, W.frozen? ⟨a, i, none⟩ = false) ∧ (∃ v, W.cell? ⟨a, 4, none⟩ = some v) ∧ a ≠ w ∧ a ≠ K := fun {a} e => by
    have hm : a ∈ q1 ++ w :: q2 := List.mem_append_left _ (List.mem_of_getLast? e)
    have hi : (q1 ++ w :: q2)[q1.length - 1]? = some a := by
      have hp : 0 < q1.length := List.length_pos_of_mem (List.mem_of_getLast? e)
      rw [qe1 (by omega), ← List.getLast?_eq_getElem?]; exact e
    exact ⟨h.fq a hm, ⟨_, h.b _ _ hi⟩, fun c => (List.nodup_append.1 hnd).2.2 a (List.mem_of_getLast? e) w (by simp) c, fun c => h.kq (c ▸ hm)⟩
  have hB : ∀ {b}, q2.head? = some b → (∀ i, W.frozen? ⟨b, i, none⟩ = false) ∧ (∃ v, W.cell? ⟨b, 3, none⟩ = some v) ∧ b ≠ w ∧ b ≠ K ∧ ∀ a, q1.getLast? = some a → a ≠ b := fun {b} e => by
    have hm2 : b ∈ q2 := List.mem_of_head? e
    have hm : b ∈ q1 ++ w :: q2 := List.mem_append_right _ (List.mem_cons_of_mem _ hm2)
    have hi : (q1 ++ w :: q2)[q1.length + 1 + 0]? = some b := by rw [qe2, ← head_at]; exact e
    exact ⟨h.fq b hm, ⟨_, h.a _ _ hi⟩, fun c => (List.nodup_cons.1 (List.nodup_append.1 hnd).2.1).1 (c ▸ hm2), fun c => h.kq (c ▸ hm), fun a ea c => (List.nodup_append.1 hnd).2.2 a (List.mem_of_getLast? ea) b (List.mem_cons_of_mem _ hm2) c⟩
  unfold dropW dropA dropB at HP
  clear h ea eb hnd
  cases e1 : q1.getLast? with
  | none =>
    cases e2 : q2.head? with
    | none =>
      rw [e1, e2] at HP
      rw [e1] at wa
      rw [e2] at wb
      simp only [pV] at HP wa wb
      generalize pV (q1 ++ w :: q2).head? = vh at hf
      generalize pV (q1 ++ w :: q2).getLast? = vl at hl
      clear hA hB e1 e2
      go_enter Try.func57, Try.ntmps57
      go_wp2
      refine bodyPost_end (v := .tuple #[]) (results_none rfl _ _ _) ?_ ?_
      · rfl
      · exact ⟨rfl, HP.out⟩
    | some b =>
      obtain ⟨fb, ⟨vb, cb⟩, bw, bK, _⟩ := hB e2
      rw [e1, e2] at HP
      rw [e1] at wa
      rw [e2] at wb
      simp only [pV] at HP wa wb
      generalize pV (q1 ++ w :: q2).head? = vh at hf
      generalize pV (q1 ++ w :: q2).getLast? = vl at hl
      have Kb : K ≠ b := fun e => bK e.symm
      have wb' : w ≠ b := fun e => bw e.symm
      clear hA hB e1 e2
      have wa2 := sc_ne (u := .pointer (some ⟨b, 0, none⟩)) (g := K) (i := off) wa (.inl hwK)
      have wb2 := sc_ne (u := .pointer (some ⟨b, 0, none⟩)) (g := K) (i := off) wb (.inl hwK)
      have cb2 := sc_ne (u := .pointer (some ⟨b, 0, none⟩)) (g := K) (i := off) cb (.inl bK)
      have fb2 : ∀ i, (W.setCell ⟨K, off, none⟩ (.pointer (some ⟨b, 0, none⟩))).frozen? ⟨b, i, none⟩ = false := fun i => by rw [World.frozen?_setCell]; exact fb i
      go_enter Try.func57, Try.ntmps57
      go_upto_region 5 with fail
      generalize W.setCell ⟨K, off, none⟩ (.pointer (some ⟨b, 0, none⟩)) = Y at *
      go_still_tail 10, (by kernel_rfl)
      go_wp2
      refine bodyPost_end (v := .tuple #[]) (results_none rfl _ _ _) ?_ ?_
      · rfl
      · exact ⟨rfl, HP.out.1.below (Below.refl _ _).drew, HP.out.2.trans (Cf.below (Below.refl _ _).drew)⟩
  | some a =>
    obtain ⟨fa, ⟨va, ca⟩, aw, aK⟩ := hA e1
    have Ka : K ≠ a := fun e => aK e.symm
    have wa' : w ≠ a := fun e => aw e.symm
    cases e2 : q2.head? with
    | none =>
      rw [e1, e2] at HP
      rw [e1] at wa
      rw [e2] at wb
      simp only [pV] at HP wa wb
      generalize pV (q1 ++ w :: q2).head? = vh at hf
      generalize pV (q1 ++ w :: q2).getLast? = vl at hl
      clear hA hB e1 e2
      go_enter Try.func57, Try.ntmps57
      go_wp2_with fail
      go_still_tail 10, (by kernel_rfl)
      go_wp2
      refine bodyPost_end (v := .tuple #[]) (results_none rfl _ _ _) ?_ ?_
      · rfl
      · exact ⟨rfl, HP.out.1.below (Below.refl _ _).drew, HP.out.2.trans (Cf.below (Below.refl _ _).drew)⟩
    | some b =>
      obtain ⟨fb, ⟨vb, cb⟩, bw, bK, hab⟩ := hB e2
      have ab := hab a e1
      have ba : b ≠ a := fun e => ab e.symm
      have Kb : K ≠ b := fun e => bK e.symm
      have wb' : w ≠ b := fun e => bw e.symm
      rw [e1, e2] at HP
      rw [e1] at wa
      rw [e2] at wb
      simp only [pV] at HP wa wb
      generalize pV (q1 ++ w :: q2).head? = vh at hf
      generalize pV (q1 ++ w :: q2).getLast? = vl at hl
      clear hA hB e1 e2 hab
      have HP2 : Hid (QAt (((W.setCell ⟨a, 4, none⟩ (.pointer (some ⟨b, 0, none⟩))).drew).setCell ⟨b, 3, none⟩ (.pointer (some ⟨a, 0, none⟩))) K off (q1 ++ q2) ∧ Cf W (((W.setCell ⟨a, 4, none⟩ (.pointer (some ⟨b, 0, none⟩))).drew).setCell ⟨b, 3, none⟩ (.pointer (some ⟨a, 0, none⟩))) (DropS K off (q1 ++ q2))) :=
        ⟨HP.out.1.below (Below.refl _ _).drew, HP.out.2.trans (Cf.below (Below.refl _ _).drew)⟩
      have wa2 : (W.setCell ⟨a, 4, none⟩ (.pointer (some ⟨b, 0, none⟩))).drew.cell? ⟨w, 3, none⟩ = some (.pointer (some ⟨a, 0, none⟩)) := sc_ne (u := .pointer (some ⟨b, 0, none⟩)) (g := a) (i := 4) wa (.inl wa')
      have wb2 : (W.setCell ⟨a, 4, none⟩ (.pointer (some ⟨b, 0, none⟩))).drew.cell? ⟨w, 4, none⟩ = some (.pointer (some ⟨b, 0, none⟩)) := sc_ne (u := .pointer (some ⟨b, 0, none⟩)) (g := a) (i := 4) wb (.inl wa')
      have cb2 : (W.setCell ⟨a, 4, none⟩ (.pointer (some ⟨b, 0, none⟩))).drew.cell? ⟨b, 3, none⟩ = some vb := sc_ne (u := .pointer (some ⟨b, 0, none⟩)) (g := a) (i := 4) cb (.inl ba)
      have fb2 : ∀ i, (W.setCell ⟨a, 4, none⟩ (.pointer (some ⟨b, 0, none⟩))).drew.frozen? ⟨b, i, none⟩ = false := fun i => by
        show (W.setCell _ _).frozen? _ = _
        rw [World.frozen?_setCell]; exact fb i
      go_enter Try.func57, Try.ntmps57
      go_upto_region 2 with fail
      go_still_tail 10, (by kernel_rfl)
      go_upto_region 5 with fail
      clear HP
      generalize (W.setCell ⟨a, 4, none⟩ (.pointer (some ⟨b, 0, none⟩))).drew = Y at *
      go_still_tail 10, (by kernel_rfl)
      go_wp2
      refine bodyPost_end (v := .tuple #[]) (results_none rfl _ _ _) ?_ ?_
      · rfl
      · exact ⟨rfl, HP2.out.1.below (Below.refl _ _).drew, HP2.out.2.trans (Cf.below (Below.refl _ _).drew)⟩
end
end Go.Proofs.Ytjojempjmpaaaaa
