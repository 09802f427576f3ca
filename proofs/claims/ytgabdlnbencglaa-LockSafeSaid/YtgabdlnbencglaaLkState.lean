/-
  A TABLE OF LOCKS IN MEMORY.
-/
import Derived.Test.YtgabdlnbencglaaLkFree
namespace Go.Proofs.Ytgabdlnbencglaa
open Go.RowKit
/-- What a table holds: locks by keys, queues by keys (0 holders, 1 readers that wait to write, 2 others), maps of what is held by owners, waiters by owners; what each claims. -/
structure Lk where
  lk : ByteArray → Option Nat
  q : Nat → ByteArray → List Nat
  hm : Int → Option Nat
  hd : Int → ByteArray → Option Nat
  wt : Int → Option Nat
  con : Nat → Wc
  pas : Nat → Option Obj
def Lk.none : Lk := ⟨fun _ => Option.none, fun _ _ => [], fun _ => Option.none, fun _ _ => Option.none, fun _ => Option.none, fun _ => ⟨ByteArray.empty, false, 0⟩, fun _ => Option.none⟩
/-- Blocks that are none of the table's, and stay as they are. -/
structure Ps (W : World) (T : Nat) (lk : ByteArray → Option Nat) (q : Nat → ByteArray → List Nat) (pas : Nat → Option Obj) : Prop where
  pa : ∀ b c, pas b = some c → W.heap[b]? = some c
  pc : ∀ b c, pas b = some c → ∃ i v, W.cell? ⟨b, i, none⟩ = some v
  pT : ∀ b c, pas b = some c → b ≠ T
  pk : ∀ b c k K, pas b = some c → lk k = some K → b ≠ K
  px : ∀ b c i k x, pas b = some c → i < 3 → x ∈ q i k → b ≠ x
theorem Ps.lt {W : World} {T : Nat} {lk : ByteArray → Option Nat} {q : Nat → ByteArray → List Nat} {pas : Nat → Option Obj} (h : Ps W T lk q pas) {b : Nat} {c : Obj} (e : pas b = some c) : b < W.heap.size := by
  obtain ⟨i, v, hv⟩ := h.pc b c e
  exact block_lt (p := ⟨b, i, none⟩) hv
theorem Ps.of {W X : World} {T : Nat} {lk : ByteArray → Option Nat} {q : Nat → ByteArray → List Nat} {pas : Nat → Option Obj} (h : Ps W T lk q pas) (hb : ∀ b c, pas b = some c → X.heap[b]? = W.heap[b]?) : Ps X T lk q pas :=
  ⟨fun b c e => (hb b c e).trans (h.pa b c e), fun b c e => by
    obtain ⟨i, v, hv⟩ := h.pc b c e
    exact ⟨i, v, (World.cell?_of_block (a := ⟨b, i, none⟩) (hb b c e)).trans hv⟩, h.pT, h.pk, h.px⟩
theorem Ps.cf {W X : World} {T : Nat} {lk : ByteArray → Option Nat} {q : Nat → ByteArray → List Nat} {pas : Nat → Option Obj} {S : Nat → Nat → Prop} (h : Ps W T lk q pas) (hc : Cf W X S) (hS : ∀ b c, pas b = some c → ∀ i, ¬ S b i) : Ps X T lk q pas :=
  h.of (fun b c e => hc.block b (h.lt e) (hS b c e))
theorem Ps.setK {W : World} {T : Nat} {lk lk' : ByteArray → Option Nat} {q : Nat → ByteArray → List Nat} {pas : Nat → Option Obj} (h : Ps W T lk q pas) (hk : ∀ b c k K, pas b = some c → lk' k = some K → b ≠ K) : Ps W T lk' q pas := ⟨h.pa, h.pc, h.pT, hk, h.px⟩
theorem Ps.setQ {W : World} {T : Nat} {lk : ByteArray → Option Nat} {q q' : Nat → ByteArray → List Nat} {pas : Nat → Option Obj} (h : Ps W T lk q pas) (hx : ∀ b c i k x, pas b = some c → i < 3 → x ∈ q' i k → b ≠ x) : Ps W T lk q' pas := ⟨h.pa, h.pc, h.pT, h.pk, hx⟩
/-- A block without cells is none of them. -/
theorem Ps.grown {W X : World} {T M : Nat} {lk : ByteArray → Option Nat} {q : Nat → ByteArray → List Nat} {pas : Nat → Option Obj} (h : Ps W T lk q pas) (hM : ∀ i, W.cell? ⟨M, i, none⟩ = none) (hg : W.grownBy X (some M)) : Ps X T lk q pas :=
  h.of (fun b c e => hg.block b (h.lt e) (fun e2 => by
    injection e2 with e2
    obtain ⟨_, v, hv⟩ := h.pc b c e
    rw [e2, hM] at hv; cases hv))
/-- A table in memory, all of whose blocks lie at B or above. -/
structure LkAt (B : Nat) (W : World) (T ml mh mw n : Nat) (s : Lk) : Prop where
  t0 : W.cell? ⟨T, 0, none⟩ = some (.map (some ml))
  t1 : W.cell? ⟨T, 1, none⟩ = some (.map (some mh))
  t2 : W.cell? ⟨T, 2, none⟩ = some (.map (some mw))
  m0 : MAt sKy pV W ml n s.lk
  m1 : MAt iKy mV W mh n s.hm
  m2 : MAt iKy pV W mw n s.wt
  md : ∀ o m, s.hm o = some m → MAt sKy pV W m n (s.hd o)
  qa : ∀ k K, s.lk k = some K → ∀ i, i < 3 → QAt W K (2 * i) (s.q i k)
  qn : ∀ k, s.lk k = none → ∀ i, s.q i k = []
  hn : ∀ o, s.hm o = none → ∀ k, s.hd o k = none
  wc : ∀ i k x, i < 3 → x ∈ s.q i k → WtAt W x (s.con x)
  li : ∀ k k' K, s.lk k = some K → s.lk k' = some K → k = k'
  hi : ∀ o o' m, s.hm o = some m → s.hm o' = some m → o = o'
  qd : ∀ i j k k' x, i < 3 → j < 3 → x ∈ s.q i k → x ∈ s.q j k' → i = j ∧ k = k'
  mn : ml ≠ mh ∧ ml ≠ mw ∧ mh ≠ mw
  hne : ∀ o m, s.hm o = some m → m ≠ ml ∧ m ≠ mh ∧ m ≠ mw
  bt : B ≤ T ∧ B ≤ ml ∧ B ≤ mh ∧ B ≤ mw
  bk : ∀ k K, s.lk k = some K → B ≤ K
  bm : ∀ o m, s.hm o = some m → B ≤ m
  bw : ∀ i k x, i < 3 → x ∈ s.q i k → B ≤ x
  ps : Ps W T s.lk s.q s.pas
section
variable {B : Nat} {W X : World} {T ml mh mw n : Nat} {s : Lk} {S : Nat → Nat → Prop}
theorem LkAt.lk_some (h : LkAt B W T ml mh mw n s) {i : Nat} {k : ByteArray} {x : Nat} (hx : x ∈ s.q i k) : ∃ K, s.lk k = some K := by
  cases e : s.lk k with
  | none => rw [h.qn k e i] at hx; cases hx
  | some K => exact ⟨K, rfl⟩
/-- What is not written stays. -/
theorem LkAt.keep (h : LkAt B W T ml mh mw n s) (hc : Cf W X S) (hT : ∀ i, ¬ S T i) (hM : ∀ m, (m = ml ∨ m = mh ∨ m = mw ∨ ∃ o, s.hm o = some m) → ∀ i, ¬ S m i) (hK : ∀ k K, s.lk k = some K → ∀ i, ¬ S K i) (hw : ∀ i k x, i < 3 → x ∈ s.q i k → ∀ j, ¬ S x j) (hP : ∀ b c, s.pas b = some c → ∀ i, ¬ S b i) : LkAt B X T ml mh mw n s where
  t0 := hc.cell _ _ _ (hT 0) h.t0
  t1 := hc.cell _ _ _ (hT 1) h.t1
  t2 := hc.cell _ _ _ (hT 2) h.t2
  m0 := h.m0.of_block (hc.block ml h.m0.lt (hM ml (.inl rfl)))
  m1 := h.m1.of_block (hc.block mh h.m1.lt (hM mh (.inr (.inl rfl))))
  m2 := h.m2.of_block (hc.block mw h.m2.lt (hM mw (.inr (.inr (.inl rfl)))))
  md := fun o m e => (h.md o m e).of_block (hc.block m (h.md o m e).lt (hM m (.inr (.inr (.inr ⟨o, e⟩)))))
  qa := fun k K e i hi => (h.qa k K e i hi).keep hc ⟨hK k K e _, hK k K e _⟩ (fun x hx => ⟨hw i k x hi hx 3, hw i k x hi hx 4⟩)
  qn := h.qn
  hn := h.hn
  wc := fun i k x hi hx => (h.wc i k x hi hx).keep hc (fun j _ => hw i k x hi hx j)
  li := h.li
  hi := h.hi
  qd := h.qd
  mn := h.mn
  hne := h.hne
  bt := h.bt
  bk := h.bk
  bm := h.bm
  bw := h.bw
  ps := h.ps.cf hc hP
theorem LkAt.below (h : LkAt B W T ml mh mw n s) (hb : Below W.heap.size W X) : LkAt B X T ml mh mw n s :=
  h.keep (S := fun _ _ => False) (Cf.below hb) (fun _ => id) (fun _ _ _ => id) (fun _ _ _ _ => id) (fun _ _ _ _ _ _ => id) (fun _ _ _ _ => id)
/-- Blocks are told apart by what they hold. -/
theorem LkAt.kx (h : LkAt B W T ml mh mw n s) {k : ByteArray} {K x : Nat} {c : Wc} (hk : s.lk k = some K) (hx : WtAt W x c) : K ≠ x := fun e => by
  have h1 := (h.qa k K hk 0 (by decide)).f
  rw [e, Nat.mul_zero, hx.c0] at h1
  generalize (s.q 0 k).head? = z at h1
  cases z <;> simp [pV] at h1
theorem LkAt.kT (h : LkAt B W T ml mh mw n s) {k : ByteArray} {K : Nat} (hk : s.lk k = some K) : K ≠ T := fun e => by
  have h1 := (h.qa k K hk 0 (by decide)).f
  rw [e, Nat.mul_zero, h.t0] at h1
  generalize (s.q 0 k).head? = z at h1
  cases z <;> simp [pV] at h1
theorem LkAt.xT (h : LkAt B W T ml mh mw n s) {x : Nat} {c : Wc} (hx : WtAt W x c) : x ≠ T := fun e => by
  have h1 := hx.c0
  rw [e, h.t0] at h1
  cases h1
end
end Go.Proofs.Ytgabdlnbencglaa
