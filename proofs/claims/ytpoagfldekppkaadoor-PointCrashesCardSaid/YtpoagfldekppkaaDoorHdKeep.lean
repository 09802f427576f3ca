/-
  What lasts of a device that keeps heads, what a crash leaves of it, and what is loaded.
-/
import Derived.Test.YtpoagfldekppkaaDoorHdBack
import Derived.Test.YtpoagfldekppkaaDoorHvCrash
namespace Go.Proofs.YtpoagfldekppkaaDoor.Dv
open Go.RowKit
theorem keepLas_len (f : Int → Option (List UInt8)) (ks : List Int) : ∀ las : List (List UInt8), (keepLas f las ks).length = las.length := by
  unfold keepLas
  induction ks with
  | nil => intro las; rfl
  | cons z ks ih =>
    intro las
    rw [List.foldl_cons, ih]
    cases f z with
    | none => rfl
    | some l => exact List.length_set
/-- What a crash keeps: those sectors that are told, as they were written last. -/
theorem keepLas_getD {f : Int → Option (List UInt8)} {n : Nat} (hf : ∀ z l, f z = some l → 0 ≤ z ∧ z < (n : Int) ∧ l.length = 64) (ks : List Int) : ∀ (las : List (List UInt8)), las.length = n → ∀ j : Nat, j < n →
    (keepLas f las ks).getD j blank64 = if (ks.any fun z => z == (j : Int)) = true then secAt las f j else las.getD j blank64 := by
  induction ks with
  | nil => intro las _ j _; rfl
  | cons z ks ih =>
    intro las hl j hj
    have hst : keepLas f las (z :: ks) = keepLas f (match f z with
      | some l => las.set z.toNat l
      | none => las) ks := rfl
    rw [hst]
    cases hfz : f z with
    | none =>
      show (keepLas f las ks).getD j blank64 = _
      rw [ih las hl j hj, List.any_cons]
      by_cases e : z = (j : Int)
      · have h1 : (z == (j : Int)) = true := by rw [beq_iff_eq]; exact e
        rw [h1, Bool.true_or, if_pos rfl]
        unfold secAt
        rw [← e, hfz]
        split <;> rfl
      · have h1 : (z == (j : Int)) = false := by rw [beq_eq_false_iff_ne]; exact e
        rw [h1, Bool.false_or]
    | some l =>
      obtain ⟨q0, q1, q2⟩ := hf z l hfz
      obtain ⟨q, rfl⟩ := Int.eq_ofNat_of_zero_le q0
      show (keepLas f (las.set (q : Int).toNat l) ks).getD j blank64 = _
      rw [ih _ (by rw [List.length_set]; exact hl) j hj, List.any_cons, Int.toNat_natCast]
      have hg : (las.set q l).getD j blank64 = if j = q then l else las.getD j blank64 := by
        simp only [List.getD_eq_getElem?_getD, List.getElem?_set]
        by_cases e : q = j
        · subst e; simp [hl, hj]
        · rw [if_neg e, if_neg (fun x => e x.symm)]
      have hs : secAt (las.set q l) f j = secAt las f j := by
        unfold secAt
        cases hfj : f (j : Int) with
        | some m => rfl
        | none =>
          have : j ≠ q := fun e => by rw [e] at hfj; rw [hfj] at hfz; cases hfz
          show (las.set q l).getD j blank64 = las.getD j blank64
          rw [hg, if_neg this]
      rw [hs, hg]
      by_cases e : j = q
      · subst e
        have h1 : ((j : Int) == (j : Int)) = true := by rw [beq_iff_eq]
        have h2 : secAt las f j = l := by unfold secAt; rw [hfz]
        rw [h1, Bool.true_or, if_pos rfl, if_pos rfl, h2]
        split <;> rfl
      · have h1 : ((q : Int) == (j : Int)) = false := by rw [beq_eq_false_iff_ne]; omega
        rw [h1, Bool.false_or, if_neg e]
end Go.Proofs.YtpoagfldekppkaaDoor.Dv
namespace Go.Proofs.YtpoagfldekppkaaDoor
open Go.RowKit
def hdOk5 (q : Hd5) : Prop := hdOk q.1 q.2.1 q.2.2.1 q.2.2.2.1 q.2.2.2.2 = true
def hdS (q : Hd5) : ByteArray := hdStr q.1 q.2.1 q.2.2.1 q.2.2.2.1 q.2.2.2.2
def hdL (q : Hd5) : List UInt8 := (hdS q).data.toList
theorem read5 {q : Hd5} (h : hdOk5 q) : readHd (hdS q) = some q := readHd_hdStr h
theorem hdL_len {q : Hd5} (h : hdOk5 q) : (hdL q).length = 64 := hdStr_size h
/-- What the other sector holds. -/
def Other (h : Hd5) (o : List UInt8) : Prop := (o = Dv.blank64 ∧ h.1 = 1) ∨ ∃ p : Hd5, hdOk5 p ∧ p.1 + 1 = h.1 ∧ o = hdL p
/-- What lasts: a head, and the one ahead of it. -/
structure Kp (las : List (List UInt8)) (h : Hd5) : Prop where
  ok : hdOk5 h
  pos : 1 ≤ h.1
  at' : ∃ o, Other h o ∧ ((h.1 % 2 = 1 ∧ las.getD 1 Dv.blank64 = hdL h ∧ las.getD 0 Dv.blank64 = o) ∨ (h.1 % 2 = 0 ∧ las.getD 0 Dv.blank64 = hdL h ∧ las.getD 1 Dv.blank64 = o))
theorem ldSec_get (las : List (List UInt8)) (t : Nat) : ldSec las (fun _ => none) 0 t = Dv.txt (las.getD t Dv.blank64) := by
  unfold ldSec Dv.secAt
  rw [Nat.zero_add]
theorem txt_hdL (q : Hd5) : Dv.txt (hdL q) = hdS q := rfl
theorem ld_odd {sec : Nat → ByteArray} {h : Hd5} (h1 : readHd (sec 1) = some h) (hp : h.1 % 2 = 1) (h0 : readHd (sec 0) = none ∨ ∃ p : Hd5, readHd (sec 0) = some p ∧ p.1 < h.1) :
    ldFrom sec 0 (z5, false, true) = (h, 0) := by
  show ldEnd (ldStep 1 (ldStep 0 (z5, false, true) (sec 0)) (sec 1)) = _
  have step : ∀ (q : Hd5) (fd bl : Bool), (fd = false ∨ q.1 < h.1) → ldEnd (ldStep 1 (q, fd, bl) (sec 1)) = (h, 0) := by
    intro q fd bl hq
    unfold ldStep
    rw [h1]
    simp only
    rw [if_pos ⟨by rw [hp]; rfl, hq⟩]
    rfl
  rcases h0 with h0 | ⟨p, h0, hlt⟩
  · rw [show ldStep 0 (z5, false, true) (sec 0) = (z5, false, true && allZ (sec 0)) by unfold ldStep; rw [h0]]
    exact step _ _ _ (.inl rfl)
  · by_cases e : p.1 % 2 = ((0 : Nat) : Int)
    · rw [show ldStep 0 (z5, false, true) (sec 0) = (p, true, true && allZ (sec 0)) by unfold ldStep; rw [h0]; simp only; rw [if_pos ⟨e, .inl trivial⟩]]
      exact step _ _ _ (.inr hlt)
    · rw [show ldStep 0 (z5, false, true) (sec 0) = (z5, false, true && allZ (sec 0)) by unfold ldStep; rw [h0]; simp only; rw [if_neg (fun x => e x.1)]]
      exact step _ _ _ (.inl rfl)
theorem ld_even {sec : Nat → ByteArray} {h : Hd5} (h0 : readHd (sec 0) = some h) (hp : h.1 % 2 = 0) (h1 : readHd (sec 1) = none ∨ ∃ p : Hd5, readHd (sec 1) = some p ∧ p.1 < h.1) :
    ldFrom sec 0 (z5, false, true) = (h, 0) := by
  show ldEnd (ldStep 1 (ldStep 0 (z5, false, true) (sec 0)) (sec 1)) = _
  rw [show ldStep 0 (z5, false, true) (sec 0) = (h, true, true && allZ (sec 0)) by unfold ldStep; rw [h0]; simp only; rw [if_pos ⟨by rw [hp]; rfl, .inl trivial⟩]]
  unfold ldStep
  rcases h1 with h1 | ⟨p, h1, hlt⟩
  · rw [h1]; rfl
  · rw [h1]
    simp only
    rw [if_neg (fun x => x.2.elim (fun y => by cases y) (fun y => by omega))]
    rfl
theorem other_read {h : Hd5} {o : List UInt8} (ho : Other h o) : readHd (Dv.txt o) = none ∨ ∃ p : Hd5, readHd (Dv.txt o) = some p ∧ p.1 < h.1 := by
  rcases ho with ⟨rfl, _⟩ | ⟨p, hp, hs, rfl⟩
  · exact .inl readHd_zero
  · exact .inr ⟨p, read5 hp, by omega⟩
theorem load_kept {las : List (List UInt8)} {h : Hd5} (k : Kp las h) : ldFrom (ldSec las (fun _ => none) 0) 0 (z5, false, true) = (h, 0) := by
  obtain ⟨o, ho, ⟨hp, h1, h0⟩ | ⟨hp, h0, h1⟩⟩ := k.at'
  · exact ld_odd (by rw [ldSec_get, h1]; exact read5 k.ok) hp (by rw [ldSec_get, h0]; exact other_read ho)
  · exact ld_even (by rw [ldSec_get, h0]; exact read5 k.ok) hp (by rw [ldSec_get, h1]; exact other_read ho)
theorem Kp.same {las las2 : List (List UInt8)} {h : Hd5} (k : Kp las h) (e : ∀ j : Nat, j < 2 → las2.getD j Dv.blank64 = las.getD j Dv.blank64) : Kp las2 h := by
  refine ⟨k.ok, k.pos, ?_⟩
  rw [e 0 (by omega), e 1 (by omega)]
  exact k.at'
/-- What is loose while a head is under way. -/
def looseOf (q : Hd5) : Int → Option (List UInt8) := Dv.upd (fun _ => none) (((0 : Nat) : Int) + q.1 % 2) (some (hdL q))
theorem looseOf_ok {q : Hd5} (h : hdOk5 q) : ∀ z l, looseOf q z = some l → 0 ≤ z ∧ z < ((2 : Nat) : Int) ∧ l.length = 64 := by
  intro z l hz
  unfold looseOf Dv.upd at hz
  split at hz
  · rename_i e
    injection hz with hz
    subst hz e
    exact ⟨by omega, by omega, hdL_len h⟩
  · cases hz
theorem sec_new (las : List (List UInt8)) (q : Hd5) (j : Nat) : Dv.secAt las (looseOf q) j = if (j : Int) = q.1 % 2 then hdL q else las.getD j Dv.blank64 := by
  unfold Dv.secAt looseOf Dv.upd
  by_cases e : (j : Int) = q.1 % 2
  · rw [if_pos (by omega), if_pos e]
  · rw [if_neg (by omega), if_neg e]
theorem Kp.next {las las2 : List (List UInt8)} {h q : Hd5} (k : Kp las h) (hq : hdOk5 q) (hs : q.1 = h.1 + 1) (e : ∀ j : Nat, j < 2 → las2.getD j Dv.blank64 = Dv.secAt las (looseOf q) j) : Kp las2 q := by
  refine ⟨hq, by have := k.pos; omega, hdL h, .inr ⟨h, k.ok, by omega, rfl⟩, ?_⟩
  have e0 := e 0 (by omega)
  have e1 := e 1 (by omega)
  rw [sec_new] at e0 e1
  obtain ⟨o, _, ⟨hp, h1, h0⟩ | ⟨hp, h0, h1⟩⟩ := k.at'
  · rw [if_pos (by omega)] at e0
    rw [if_neg (by omega)] at e1
    exact .inr ⟨by omega, e0, e1.trans h1⟩
  · rw [if_neg (by omega)] at e0
    rw [if_pos (by omega)] at e1
    exact .inl ⟨by omega, e1, e0.trans h0⟩
/-- Behind a crash: the head that was, or the one that was under way. -/
theorem Kp.crash {las : List (List UInt8)} {h q : Hd5} (k : Kp las h) (hl : las.length = 2) (hq : hdOk5 q) (hs : q.1 = h.1 + 1) (ks : List Int) : Kp (Dv.keepLas (looseOf q) las ks) h ∨ Kp (Dv.keepLas (looseOf q) las ks) q := by
  have hk := Dv.keepLas_getD (n := 2) (looseOf_ok hq) ks las hl
  by_cases hm : (ks.any fun z => z == q.1 % 2) = true
  · refine .inr (k.next hq hs fun j hj => ?_)
    rw [hk j hj]
    by_cases e : (j : Int) = q.1 % 2
    · rw [if_pos (by rw [e]; exact hm)]
    · split
      · rfl
      · rw [sec_new, if_neg e]
  · refine .inl (k.same fun j hj => ?_)
    rw [hk j hj]
    by_cases e : (j : Int) = q.1 % 2
    · rw [if_neg (by rw [e]; exact hm)]
    · split
      · rw [sec_new, if_neg e]
      · rfl
theorem keep_none (las : List (List UInt8)) : ∀ ks : List Int, Dv.keepLas (fun _ => none) las ks = las := by
  intro ks
  unfold Dv.keepLas
  induction ks with
  | nil => rfl
  | cons z ks ih => rw [List.foldl_cons]; exact ih
theorem kp_first {las2 : List (List UInt8)} (h0 : las2.getD 0 Dv.blank64 = Dv.blank64) (h1 : las2.getD 1 Dv.blank64 = hdL (1, 0, 0, 0, 0)) : Kp las2 (1, 0, 0, 0, 0) :=
  ⟨show hdOk 1 0 0 0 0 = true by decide, by decide, Dv.blank64, .inl ⟨rfl, rfl⟩, .inl ⟨by decide, h1, h0⟩⟩
end Go.Proofs.YtpoagfldekppkaaDoor
