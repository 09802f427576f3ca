/-
  A TABLE OF LOCKS: Ask, of one that holds nothing of the key: it comes to hold it; it must wait.
-/
import Derived.Test.YtgabdlnbencglaaLkm3
namespace Go.Proofs.Ytgabdlnbencglaa
open Go.RowKit
/-- A table behind the making of a key's lock. -/
noncomputable def lockS (s : Lk) (k : ByteArray) (K : Nat) : Lk := { s with lk := updM s.lk k (some K) }
/-- Who must wait stands behind the others. -/
noncomputable def waitS (s : Lk) (w : Nat) (x : Wc) : Lk := { s with q := updQ s.q 2 x.k (s.q 2 x.k ++ [w]), con := updC s.con w x, wt := updM s.wt x.ow (some w) }
/-- What is there ahead of the answer: a waiter of its own. -/
structure AskA (B : Nat) (W0 W : World) (T ml mh mw n K w : Nat) (s : Lk) (k : ByteArray) (b : Bool) (o : Int) : Prop where
  t : LkAt B W T ml mh mw (n + 1) (lockS s k K)
  f : Fw W w ⟨k, b, o⟩
  nf : ∀ i k', i < 3 → w ∉ s.q i k'
  np : ∀ b c, s.pas b = some c → b ≠ w
  bw : B ≤ w
  be : Below B W0 W
section
variable {B : Nat} {W X : World} {T ml mh mw n K w : Nat} {s : Lk} {k : ByteArray} {b : Bool} {o : Int} {W0 : World}
theorem AskA.below (h : AskA B W0 W T ml mh mw n K w s k b o) (hb : Below W.heap.size W X) : AskA B W0 X T ml mh mw n K w s k b o :=
  ⟨h.t.below hb, h.f.below hb, h.nf, h.np, h.bw, h.be.trans (hb.mono h.t.lts)⟩
theorem lockS_k : (lockS s k K).lk k = some K := updM_same _ _ _
/-- What Ask leaves where the owner comes to hold the key. -/
def AskH (B : Nat) (T ml mh mw n : Nat) (s : Lk) (k : ByteArray) (b : Bool) (o : Int) (W : World) (e : Ending) (W' : World) : Prop :=
  e = .returned (.int .i64 0) ∧ ∃ K m w, LkAt B W' T ml mh mw (n + 3) (heldS (lockS s k K) m w ⟨k, b, o⟩) ∧ (∀ i k', i < 3 → w ∉ s.q i k') ∧ Below B W W'
/-- What Ask leaves where it must wait. -/
def AskW (B : Nat) (T ml mh mw n : Nat) (s : Lk) (k : ByteArray) (b : Bool) (o : Int) (W : World) (e : Ending) (W' : World) : Prop :=
  e = .returned (.int .i64 10) ∧ ∃ K w, LkAt B W' T ml mh mw (n + 3) (waitS (lockS s k K) w ⟨k, b, o⟩) ∧ (∀ i k', i < 3 → w ∉ s.q i k') ∧ Below B W W'
/-- hold, behind all that is made. -/
theorem AskA.hold (h : AskA B W0 W T ml mh mw n K w s k b o) (hh : s.hd o k = none) (hs : k.size ≤ 1000) (hwf : (Lit.int .i64 o).wf = true) (hn : n ≤ 100000) :
    Calls Try.prog 32 #[.pointer (some ⟨T, 0, none⟩), .pointer (some ⟨w, 0, none⟩)] W fun e W' => e = .returned (.tuple #[]) ∧ ∃ m, LkAt B W' T ml mh mw (n + 3) (heldS (lockS s k K) m w ⟨k, b, o⟩) ∧ Below B W0 W' := by
  have key : ∀ {e : Ending} {W' : World}, HoP B T ml mh mw (n + 1) (lockS s k K) w ⟨k, b, o⟩ W e W' → e = .returned (.tuple #[]) ∧ ∃ m, LkAt B W' T ml mh mw (n + 3) (heldS (lockS s k K) m w ⟨k, b, o⟩) ∧ Below B W0 W' := fun hp => by
    obtain ⟨e, m, h1, h2⟩ := hp
    exact ⟨e, m, h1, h.be.trans h2⟩
  cases hm : s.hm o with
  | none => exact (hold_new h.t h.f h.nf h.np h.bw lockS_k hm (show k.size ≤ maxLen by unfold maxLen; omega) hwf (by unfold maxLen; omega)).mono (fun _ _ hp => key hp)
  | some m => exact (hold_in h.t h.f h.nf h.np h.bw lockS_k hm hh (show k.size ≤ maxLen by unfold maxLen; omega) hwf (by unfold maxLen; omega)).mono (fun _ _ hp => key hp)
theorem AskA.first (h : AskA B W0 W T ml mh mw n K w s k b o) : Calls Try.prog 30 #[.pointer (some ⟨K, 0, none⟩)] W fun e W' => e = .returned (pV (s.q 1 k ++ s.q 2 k).head?) ∧ W = W' :=
  first_any (h.t.qa k K lockS_k 1 (by decide)) (h.t.qa k K lockS_k 2 (by decide))
theorem AskA.free (h : AskA B W0 W T ml mh mw n K w s k b o) : Calls Try.prog 31 #[.pointer (some ⟨K, 0, none⟩), .pointer (some ⟨w, 0, none⟩)] W fun e W' => e = .returned (.bool (freeB s.con ⟨k, b, o⟩ (s.q 0 k))) ∧ Below W.heap.size W W' :=
  free_any s.con (h.t.qa k K lockS_k 0 (by decide)) h.f.c (fun z hz => h.t.wc 0 k z (by decide) hz)
theorem AskA.line (h : AskA B W0 W T ml mh mw n K w s k b o) (hh : s.hd o k = none) (hs : k.size ≤ 1000) (hwf : (Lit.int .i64 o).wf = true) : Calls Try.prog 33 #[.pointer (some ⟨T, 0, none⟩), .pointer (some ⟨w, 0, none⟩)] W fun e W' => e = .returned (.pointer (some ⟨K, 4, none⟩)) ∧ Below W.heap.size W W' :=
  line_others h.t h.f.c lockS_k hh (show k.size ≤ maxLen by unfold maxLen; omega) hwf
theorem AskA.put (h : AskA B W0 W T ml mh mw n K w s k b o) : Calls Try.prog 34 #[.pointer (some ⟨K, 4, none⟩), .pointer (some ⟨w, 0, none⟩)] W fun e W' => e = .returned (.tuple #[]) ∧ LkAt B W' T ml mh mw (n + 1) { lockS s k K with q := updQ s.q 2 k (s.q 2 k ++ [w]), con := updC s.con w ⟨k, b, o⟩ } ∧ Below B W0 W' := by
  obtain ⟨v3, e3⟩ := h.f.c3
  obtain ⟨v4, e4⟩ := h.f.c4
  refine (put_any (h.t.qa k K lockS_k 2 (by decide)) (h.nf 2 k (by decide)) (h.t.kx lockS_k h.f.c).symm e3 e4 h.f.fz).mono ?_
  rintro e W' ⟨rfl, hq, hc⟩
  refine ⟨rfl, h.t.putQ (i := 2) (by decide) lockS_k h.f.c h.nf h.np h.bw hq hc, h.be.trans (cf_below hc (fun c i q => ?_) h.t.lts)⟩
  rcases q with ⟨q, _⟩ | ⟨q, _⟩ | ⟨q, _⟩
  · rw [q]; exact h.t.bk k K lockS_k
  · rw [q]; exact h.bw
  · exact h.t.bw 2 k c (by decide) q
end
end Go.Proofs.Ytgabdlnbencglaa
