/-
  A TABLE OF LOCKS: rows beside it stay; a row grows.
-/
import Derived.Test.YtgabdlnbencglaaLkPassAny
import Derived.Test.YtgabdlnbencglaaLkKeysP
namespace Go.Proofs.Ytgabdlnbencglaa
open Go.RowKit
/-- A block that is none of the table's. -/
structure Nt (s : Lk) (T g : Nat) : Prop where
  t : g ≠ T
  k : ∀ k K, s.lk k = some K → g ≠ K
  x : ∀ i k x, i < 3 → x ∈ s.q i k → g ≠ x
  p : s.pas g = none
noncomputable def withP (s : Lk) (p : Nat → Option Obj) : Lk := { s with pas := p }
/-- A value's own block rides along. -/
noncomputable def rideP (p : Nat → Option Obj) (v : Value) (W : World) : Nat → Option Obj := fun b => if v.ownBlock = some b then W.heap[b]? else p b
section
variable {B : Nat} {W X : World} {T ml mh mw n : Nat} {s : Lk} {v v' : Value}
theorem LkAt.off (h : LkAt B W T ml mh mw n s) (p : Nat → Option Obj) (hp : ∀ b c, p b = some c → s.pas b = some c) : LkAt B W T ml mh mw n (withP s p) :=
  { h with ps := ⟨fun b c e => h.ps.pa b c (hp b c e), fun b c e => h.ps.pc b c (hp b c e), fun b c e => h.ps.pT b c (hp b c e), fun b c k K e => h.ps.pk b c k K (hp b c e), fun b c i k x e => h.ps.px b c i k x (hp b c e)⟩ }
theorem LkAt.ride (h : LkAt B W T ml mh mw n s) (hv : ∀ g, v.ownBlock = some g → Nt s T g ∧ ∃ i u, W.cell? ⟨g, i, none⟩ = some u) : LkAt B W T ml mh mw n (withP s (rideP s.pas v W)) := by
  have key : ∀ b c, rideP s.pas v W b = some c → (v.ownBlock = some b ∧ W.heap[b]? = some c) ∨ s.pas b = some c := fun b c e => by
    unfold rideP at e
    split at e
    · rename_i q; exact .inl ⟨q, e⟩
    · exact .inr e
  refine { h with ps := ⟨fun b c e => ?_, fun b c e => ?_, fun b c e => ?_, fun b c k K e e2 => ?_, fun b c i k x e hi hx => ?_⟩ } <;> rcases key b c e with ⟨q1, q2⟩ | q
  · exact q2
  · exact h.ps.pa b c q
  · exact (hv b q1).2
  · exact h.ps.pc b c q
  · exact (hv b q1).1.t
  · exact h.ps.pT b c q
  · exact (hv b q1).1.k k K e2
  · exact h.ps.pk b c k K q e2
  · exact (hv b q1).1.x i k x hi hx
  · exact h.ps.px b c i k x q hi hx
/-- What rode along is as it was, and still none of the table's. -/
theorem LkAt.rode (h : LkAt B X T ml mh mw n s) {p : Nat → Option Obj} {g : Nat} (hs : s.pas = rideP p v W) (hg : v.ownBlock = some g) (hW : ∃ c, W.heap[g]? = some c) (hp : p g = none) : X.heap[g]? = W.heap[g]? ∧ Nt (withP s p) T g := by
  obtain ⟨c, hc⟩ := hW
  have e : s.pas g = some c := by
    rw [hs]
    unfold rideP
    rw [if_pos hg, hc]
  exact ⟨(h.ps.pa g c e).trans hc.symm, ⟨h.ps.pT g c e, fun k K e2 => h.ps.pk g c k K e e2, fun i k x hi hx => h.ps.px g c i k x e hi hx, hp⟩⟩
theorem LkAt.unride (h : LkAt B W T ml mh mw n s) {p : Nat → Option Obj} {w0 : World} (hs : s.pas = rideP p v w0) (hp : ∀ g, v.ownBlock = some g → p g = none) : LkAt B W T ml mh mw n (withP s p) :=
  h.off p (fun b c e => by
    rw [hs]
    unfold rideP
    split
    · rename_i q
      rw [hp b q] at e; cases e
    · exact e)
theorem LkAt.nt_new (h : LkAt B W T ml mh mw n s) {g : Nat} (hg : W.heap.size ≤ g) : Nt s T g := by
  refine ⟨fun e => ?_, fun k K e c => ?_, fun i k x hi hx c => ?_, ?_⟩
  · have := block_lt (p := ⟨T, 0, none⟩) h.t0
    simp only at this; omega
  · have := (h.qa k K e 0 (by decide)).lt; omega
  · have := (h.wc i k x hi hx).lt; omega
  · cases e : s.pas g with
    | none => rfl
    | some c => have := h.ps.lt e; omega
/-- A row that is none of the table's grows. -/
theorem LkAt.appended (h : LkAt B W T ml mh mw n s) (hn : ∀ g, v.ownBlock = some g → Nt s T g ∧ (∃ u, W.cell? ⟨g, 0, none⟩ = some u) ∧ B ≤ g) (hg : W.grownBy X v.ownBlock) (hv : v'.ownBlock = v.ownBlock ∨ v'.ownBlock = some W.heap.size) :
    LkAt B X T ml mh mw n s ∧ Below B W X ∧ ∀ g, v'.ownBlock = some g → Nt s T g := by
  have hN : ∀ g, v'.ownBlock = some g → Nt s T g := fun g e => by
    rcases hv with q | q
    · exact (hn g (q ▸ e)).1
    · rw [q] at e
      injection e with e
      exact h.nt_new (by omega)
  cases e : v.ownBlock with
  | none =>
    rw [e] at hg
    have hb : Below W.heap.size W X := ⟨hg.os, hg.tape, hg.output, hg.size, fun j hj => hg.block j hj (by simp)⟩
    exact ⟨h.below hb, hb.mono h.lts, hN⟩
  | some g =>
    rw [e] at hg
    obtain ⟨nt, ⟨u, hu⟩, hB⟩ := hn g e
    have nm : ∀ {κ : Type} {Y : Ky κ} {mk : Option Nat → Value} {M n' : Nat} {o : κ → Option Nat}, MAt Y mk W M n' o → M ≠ g := fun hM => hM.ne hu
    refine ⟨h.keep (Cf.grown hg) (fun _ => ?_) (fun m hm _ => ?_) (fun k K e2 _ => ?_) (fun i k x hi hx _ => ?_) (fun b c e2 _ => ?_), (Below.refl B W).grown hg h.lts (fun g' e2 => by injection e2 with e2; omega), hN⟩
    · show ¬ T = g
      exact fun c => nt.t c.symm
    · show ¬ m = g
      rcases hm with rfl | rfl | rfl | ⟨o, e2⟩
      · exact nm h.m0
      · exact nm h.m1
      · exact nm h.m2
      · exact nm (h.md o m e2)
    · show ¬ K = g
      exact fun c => nt.k k K e2 c.symm
    · show ¬ x = g
      exact fun c => nt.x i k x hi hx c.symm
    · show ¬ b = g
      intro c2
      rw [c2, nt.p] at e2; cases e2
end
theorem ownsRow_of {w w' : World} {B : Nat} {e : TypeId} {sz : Nat} {v : Value} {n : Nat} {xs : List Value} (h : w.ownsRow B e sz v n xs) (hb : ∀ g, v.ownBlock = some g → w'.heap[g]? = w.heap[g]?) : w'.ownsRow B e sz v n xs :=
  ⟨h.1, h.2.imp id fun ⟨g, cap, cur, hv, hB, hg, rest⟩ => ⟨g, cap, cur, hv, hB, (hb g (by rw [hv]; rfl)).trans hg, rest⟩⟩
theorem Step.withP {k : ByteArray} {s s' : Lk} {w : Nat} (h : Step k s w s') (p : Nat → Option Obj) : Step k (withP s p) w (withP s' p) := by
  cases h with
  | up r h0 e1 e2 e3 => exact .up (s := Go.Proofs.Ytgabdlnbencglaa.withP s p) r h0 e1 e2 e3
  | new r m e1 e2 e3 => exact .new (s := Go.Proofs.Ytgabdlnbencglaa.withP s p) r m e1 e2 e3
theorem Step.pas {k : ByteArray} {s s' : Lk} {w : Nat} (h : Step k s w s') : s'.pas = s.pas := by cases h <;> rfl
theorem PassK.pas {k : ByteArray} {s s' : Lk} {os : List Int} (h : PassK k s os s') : s'.pas = s.pas := by
  induction h with
  | nil => rfl
  | snoc _ st ih => exact st.pas.trans ih
theorem PassK.withP {k : ByteArray} {s s' : Lk} {os : List Int} (h : PassK k s os s') (p : Nat → Option Obj) : PassK k (withP s p) os (withP s' p) := by
  induction h with
  | nil => exact .nil
  | @snoc os s1 s2 w _ st ih => exact .snoc (s1 := Go.Proofs.Ytgabdlnbencglaa.withP s1 p) ih (st.withP p)
theorem PassL.pas {s s' : Lk} {ks : List ByteArray} {os : List Int} (h : PassL s ks os s') : s'.pas = s.pas := by
  induction h with
  | nil => rfl
  | snoc _ pk _ ih => exact pk.pas.trans ih
theorem PassL.withP {s s' : Lk} {ks : List ByteArray} {os : List Int} (h : PassL s ks os s') (p : Nat → Option Obj) : PassL (withP s p) ks os (withP s' p) := by
  induction h with
  | nil => exact .nil
  | @snoc ks os o2 k s1 s2 _ pk st ih => exact .snoc (s1 := Go.Proofs.Ytgabdlnbencglaa.withP s1 p) (s2 := Go.Proofs.Ytgabdlnbencglaa.withP s2 p) ih (pk.withP p) st
theorem LkC.withP {s : Lk} (h : LkC s) (p : Nat → Option Obj) : LkC (withP s p) := ⟨⟨h.ok.h1, h.ok.h2, h.ok.ck, h.ok.w1, h.ok.w2, h.ok.r1, h.ok.r2, h.ok.cp⟩, h.qd, h.nd, h.q3⟩
end Go.Proofs.Ytgabdlnbencglaa
