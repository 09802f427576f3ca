/-
  A TABLE OF LOCKS: an owner leaves its line, or all that it holds, as functions.
  A TABLE OF LOCKS: many owners leave, as a function; what passing leaves settled.
  A TABLE OF LOCKS: what Ask does, as a relation; what it keeps.
  A TABLE OF LOCKS BETWEEN ACTS: what is known of it, act by act.
-/
import Derived.Test.YtjojempjmpaaaaaLkPassG
namespace Go.Proofs.Ytjojempjmpaaaaa
open Go.RowKit
/-- The others of a queue. -/
noncomputable def fl (con : Nat → Wc) (o : Int) (q : List Nat) : List Nat := q.filter fun y => decide ((con y).ow ≠ o)
section
variable {con : Nat → Wc} {o : Int} {q q1 q2 : List Nat} {w y : Nat}
theorem mem_fl : y ∈ fl con o q ↔ y ∈ q ∧ (con y).ow ≠ o := by unfold fl; rw [List.mem_filter, decide_eq_true_iff]
theorem fl_id (h : ∀ y, y ∈ q → (con y).ow ≠ o) : fl con o q = q := List.filter_eq_self.2 (fun y hy => decide_eq_true (h y hy))
theorem fl_split (e : q = q1 ++ w :: q2) (hn : q.Nodup) (hw : (con w).ow = o) (hu : ∀ y, y ∈ q → (con y).ow = o → y = w) : fl con o q = q1 ++ q2 := by
  subst e
  have h1 := List.nodup_append.1 hn
  have h2 := List.nodup_cons.1 h1.2.1
  have e1 : fl con o q1 = q1 := fl_id (fun y hy c => h1.2.2 y hy w (List.mem_cons_self ..) (hu y (List.mem_append_left _ hy) c))
  have e2 : fl con o q2 = q2 := fl_id (fun y hy c => h2.1 (by rw [← hu y (List.mem_append_right _ (List.mem_cons_of_mem _ hy)) c]; exact hy))
  unfold fl at e1 e2 ⊢
  rw [List.filter_append, List.filter_cons, if_neg (by rw [hw]; simp), e1, e2]
end
noncomputable def leftT (s : Lk) (o : Int) : Lk := { s with q := fun i k => if i = 0 then s.q 0 k else fl s.con o (s.q i k), wt := updM s.wt o none }
noncomputable def goneH (s : Lk) (o : Int) : Lk := { s with q := fun i k => if i = 0 then fl s.con o (s.q 0 k) else s.q i k, hm := updM s.hm o none, hd := clrH s.hd o }
noncomputable def dropS (s : Lk) (o : Int) (dn : List ByteArray) : Lk := by
  classical exact { s with q := fun i k => if i = 0 ∧ k ∈ dn then fl s.con o (s.q 0 k) else s.q i k }
noncomputable def goneT (s : Lk) (o : Int) : Lk := goneH (leftT s o) o
section
variable {s : Lk} {o : Int} {k : ByteArray} {w : Nat}
theorem LkC.own1 (h : LkC s) {y : Nat} (hy : y ∈ s.q 0 k) (hd : s.hd o k = some w) (ho : (s.con y).ow = o) : y = w := by
  have := h.ok.h2 k y hy
  rw [ho, hd] at this
  exact (Option.some.inj this).symm
theorem leftT_none (h : LkC s) (hw : s.wt o = none) : leftT s o = s := by
  have e1 : (fun i k => if i = 0 then s.q 0 k else fl s.con o (s.q i k)) = s.q := by
    funext i k
    by_cases e : i = 0
    · rw [if_pos e, e]
    · rw [if_neg e]
      by_cases e3 : i < 3
      · refine fl_id (fun y hy c => ?_)
        have := h.ok.w2 i k y (by omega) hy
        rw [c, hw] at this; cases this
      · rw [h.q3 i k (by omega)]; rfl
  have e2 : updM s.wt o none = s.wt := updM_id hw
  unfold leftT
  rw [e1, e2]
theorem leftT_some (h : LkC s) {i : Nat} {q1 q2 : List Nat} (hi : i = 1 ∨ i = 2) (he : s.q i k = q1 ++ w :: q2) (ho : (s.con w).ow = o) : leftT s o = leftG s i k (q1 ++ q2) o := by
  have hw : w ∈ s.q i k := by rw [he]; simp
  have un : ∀ j k' y, (j = 1 ∨ j = 2) → y ∈ s.q j k' → (s.con y).ow = o → y = w := fun j k' y hj hy c => by
    have h1 := h.ok.w2 j k' y hj hy
    have h2 := h.ok.w2 i k w hi hw
    rw [c] at h1
    rw [ho, h1] at h2
    exact Option.some.inj h2
  have e1 : (fun i k => if i = 0 then s.q 0 k else fl s.con o (s.q i k)) = updQ s.q i k (q1 ++ q2) := by
    funext j k'
    by_cases e : j = 0
    · rw [if_pos e, e, updQ_other _ _ (fun c => by omega)]
    · rw [if_neg e]
      by_cases e3 : j < 3
      · by_cases e4 : j = i ∧ k' = k
        · obtain ⟨rfl, rfl⟩ := e4
          rw [updQ_same]
          exact fl_split he (h.nd j k' e3) ho (fun y hy => un j k' y hi hy)
        · rw [updQ_other _ _ e4]
          refine fl_id (fun y hy c => e4 ?_)
          rw [un j k' y (by omega) hy c] at hy
          exact h.qd j i k' k w e3 (lt3 hi) hy hw
      · rw [updQ_other _ _ (fun c => by omega), h.q3 j k' (by omega)]; rfl
  unfold leftT leftG
  rw [e1]
theorem LkC.leftT (h : LkC s) : LkC (leftT s o) ∧ (Go.Proofs.Ytjojempjmpaaaaa.leftT s o).wt o = none := by
  refine ⟨?_, updM_same _ _ _⟩
  cases e : s.wt o with
  | none => rw [leftT_none h e]; exact h
  | some w =>
    obtain ⟨ho, i, hi, hw⟩ := h.ok.w1 o w e
    obtain ⟨q1, q2, he⟩ := List.append_of_mem hw
    rw [leftT_some h hi he ho, ← ho]
    have hn := h.nd i (s.con w).k (lt3 hi)
    rw [he] at hn
    have h1 := List.nodup_append.1 hn
    have h2 := List.nodup_cons.1 h1.2.1
    have hn2 : (q1 ++ q2).Nodup := List.nodup_append.2 ⟨h1.1, h2.2, fun a ha b hb => h1.2.2 a ha b (List.mem_cons_of_mem _ hb)⟩
    refine (h.leave hi hw (fun y => ?_) hn2).1
    rw [he, List.mem_append, List.mem_append, List.mem_cons]
    constructor
    · rintro (c | c)
      · exact ⟨.inl c, fun e => h1.2.2 y c w (List.mem_cons_self ..) e⟩
      · exact ⟨.inr (.inr c), fun e => h2.1 (e ▸ c)⟩
    · rintro ⟨c | c | c, d⟩
      · exact .inl c
      · exact absurd c d
      · exact .inr c
theorem LkC.goneH (h : LkC s) (hw : s.wt o = none) : LkC (goneH s o) := by
  have m0 : ∀ k y, y ∈ (Go.Proofs.Ytjojempjmpaaaaa.goneH s o).q 0 k ↔ y ∈ s.q 0 k ∧ (s.con y).ow ≠ o := fun k y => mem_fl
  have mi : ∀ i k, i ≠ 0 → (Go.Proofs.Ytjojempjmpaaaaa.goneH s o).q i k = s.q i k := fun i k e => if_neg e
  have sub : ∀ i k y, y ∈ (Go.Proofs.Ytjojempjmpaaaaa.goneH s o).q i k → y ∈ s.q i k := fun i k y hy => by
    by_cases e : i = 0
    · subst e; exact ((m0 k y).1 hy).1
    · rw [mi i k e] at hy; exact hy
  have hdo : ∀ o' k, o' ≠ o → clrH s.hd o o' k = s.hd o' k := fun o' k e => by unfold clrH; rw [if_neg e]
  have hds : ∀ k, clrH s.hd o o k = none := fun k => by unfold clrH; rw [if_pos rfl]
  refine ⟨⟨fun o' k w e => ?_, fun k w c => ?_, fun i k w hi c => h.ok.ck i k w hi (sub i k w c), fun o' w e => ?_, fun i k w hi c => ?_, fun k w c => ?_, fun k w c => ?_, fun k x y c d => h.ok.cp k x y (sub 0 k x c) (sub 0 k y d)⟩, fun a b k1 k2 x ha hb e1 e2 => h.qd a b k1 k2 x ha hb (sub a k1 x e1) (sub b k2 x e2), fun i k hi => ?_, fun i k hi => ?_⟩
  · have e : clrH s.hd o o' k = some w := e
    by_cases e2 : o' = o
    · rw [e2, hds] at e; cases e
    · rw [hdo o' k e2] at e
      obtain ⟨h1, h2⟩ := h.ok.h1 o' k w e
      exact ⟨(m0 k w).2 ⟨h1, by rw [h2]; exact e2⟩, h2⟩
  · obtain ⟨c1, c2⟩ := (m0 k w).1 c
    show clrH s.hd o (s.con w).ow k = some w
    rw [hdo _ k c2]
    exact h.ok.h2 k w c1
  · obtain ⟨h1, i, hi, h2⟩ := h.ok.w1 o' w e
    exact ⟨h1, i, hi, by rw [mi i _ (by omega)]; exact h2⟩
  · exact h.ok.w2 i k w hi (sub i k w c)
  · have hq := sub 1 k w c
    show clrH s.hd o (s.con w).ow k ≠ none
    rw [hdo _ k (fun e => by
      have := h.ok.w2 1 k w (.inl rfl) hq
      rw [e, hw] at this; cases this)]
    exact h.ok.r1 k w hq
  · have hq := sub 2 k w c
    show clrH s.hd o (s.con w).ow k = none
    by_cases e : (s.con w).ow = o
    · rw [e]; exact hds k
    · rw [hdo _ k e]; exact h.ok.r2 k w hq
  · by_cases e : i = 0
    · subst e
      exact (h.nd 0 k hi).sublist List.filter_sublist
    · rw [mi i k e]; exact h.nd i k hi
  · rw [mi i k (by omega)]; exact h.q3 i k hi
theorem LkC.goneT (h : LkC s) : LkC (goneT s o) := h.leftT.1.goneH h.leftT.2
theorem dropS_nil : dropS s o [] = s := by
  unfold dropS
  simp
theorem dropS_q (dn : List ByteArray) : (k ∉ dn → ∀ i, (dropS s o dn).q i k = s.q i k) ∧ (∀ i, i ≠ 0 → (dropS s o dn).q i k = s.q i k) := by
  unfold dropS
  exact ⟨fun h i => if_neg (fun c => h c.2), fun i e => if_neg (fun c => e c.1)⟩
theorem dropS_sub (dn : List ByteArray) {i : Nat} {y : Nat} (h : y ∈ (dropS s o dn).q i k) : y ∈ s.q i k := by
  unfold dropS at h
  simp only at h
  split at h
  · rename_i e
    rw [e.1]; exact (mem_fl.1 h).1
  · exact h
theorem dropS_snoc (h : LkC s) {dn : List ByteArray} {q1 q2 : List Nat} (hd : s.hd o k = some w) (he : s.q 0 k = q1 ++ w :: q2) : { dropS s o dn with q := updQ (dropS s o dn).q 0 k (q1 ++ q2) } = dropS s o (dn ++ [k]) := by
  classical
  have e1 : updQ (dropS s o dn).q 0 k (q1 ++ q2) = (dropS s o (dn ++ [k])).q := by
    funext i k'
    by_cases e : i = 0 ∧ k' = k
    · obtain ⟨rfl, rfl⟩ := e
      rw [updQ_same]
      unfold dropS
      simp only [List.mem_append, List.mem_singleton, or_true, and_true, if_true]
      exact (fl_split he (h.nd 0 k' (by decide)) (h.ok.h1 _ _ _ hd).2 (fun y hy => h.own1 hy hd)).symm
    · rw [updQ_other _ _ e]
      unfold dropS
      have : (i = 0 ∧ k' ∈ dn ++ [k]) ↔ (i = 0 ∧ k' ∈ dn) := by
        rw [List.mem_append, List.mem_singleton]
        exact ⟨fun c => ⟨c.1, c.2.resolve_right (fun d => e ⟨c.1, d⟩)⟩, fun c => ⟨c.1, .inl c.2⟩⟩
      show (if i = 0 ∧ k' ∈ dn then fl s.con o (s.q 0 k') else s.q i k') = if i = 0 ∧ k' ∈ dn ++ [k] then fl s.con o (s.q 0 k') else s.q i k'
      by_cases c : i = 0 ∧ k' ∈ dn
      · rw [if_pos c, if_pos (this.2 c)]
      · rw [if_neg c, if_neg (fun d => c (this.1 d))]
  have e2 : ∀ q' : Nat → ByteArray → List Nat, { dropS s o dn with q := q' } = { s with q := q' } := fun _ => rfl
  rw [e2, e1]
  rfl
theorem dropS_all (h : LkC s) {dn : List ByteArray} (ha : ∀ k, s.hd o k ≠ none → k ∈ dn) : { dropS s o dn with hm := updM (dropS s o dn).hm o none, hd := clrH (dropS s o dn).hd o } = goneH s o := by
  have e1 : (dropS s o dn).q = fun i k => if i = 0 then fl s.con o (s.q 0 k) else s.q i k := by
    funext i k
    unfold dropS
    by_cases e : i = 0
    · subst e
      by_cases e2 : k ∈ dn
      · simp [e2]
      · simp only [e2, and_false, if_false, if_true]
        refine (fl_id (fun y hy c => e2 (ha k ?_))).symm
        have := h.ok.h2 k y hy
        rw [c] at this
        rw [this]; simp
    · simp [e]
  show { s with q := (dropS s o dn).q, hm := updM s.hm o none, hd := clrH s.hd o } = goneH s o
  rw [e1]
  rfl
/-- Of which keys it lets go. -/
def keysOf (s : Lk) (o : Int) (k : ByteArray) : Prop := (∃ w, s.wt o = some w ∧ (s.con w).k = k) ∨ s.hd o k ≠ none
theorem goneT_same (h : LkC s) (hk : ¬ keysOf s o k) : SameAt s (goneT s o) k := by
  have n0 : ∀ y, y ∈ s.q 0 k → (s.con y).ow ≠ o := fun y hy c => hk (.inr (by
    have := h.ok.h2 k y hy
    rw [c] at this
    rw [this]; simp))
  have ni : ∀ i y, (i = 1 ∨ i = 2) → y ∈ s.q i k → (s.con y).ow ≠ o := fun i y hi hy c => hk (.inl ⟨y, by
    have := h.ok.w2 i k y hi hy
    rw [c] at this; exact this, (h.ok.ck i k y (lt3 hi) hy).1⟩)
  refine ⟨fun i hi => ?_, fun _ _ _ _ => rfl, rfl⟩
  by_cases e : i = 0
  · subst e
    exact fl_id n0
  · show (if i = 0 then _ else if i = 0 then _ else fl s.con o (s.q i k)) = _
    rw [if_neg e, if_neg e]
    exact fl_id (fun y hy => ni i y (by omega) hy)
theorem goneT_sub {i : Nat} {y : Nat} (h : y ∈ (goneT s o).q i k) : y ∈ s.q i k ∧ (i < 3 → (s.con y).ow ≠ o) := by
  by_cases e : i = 0
  · subst e
    exact ⟨(mem_fl.1 h).1, fun _ => (mem_fl.1 h).2⟩
  · have h : y ∈ (if i = 0 then fl s.con o (s.q 0 k) else if i = 0 then s.q 0 k else fl s.con o (s.q i k)) := h
    rw [if_neg e, if_neg e] at h
    exact ⟨(mem_fl.1 h).1, fun _ => (mem_fl.1 h).2⟩
theorem keysOf_lk {B : Nat} {W : World} {T ml mh mw n : Nat} (t : LkAt B W T ml mh mw n s) (h : LkC s) (hk : keysOf s o k) : s.lk k ≠ none ∧ k.size ≤ 100 := by
  have key : ∀ i y, i < 3 → y ∈ s.q i k → s.lk k ≠ none ∧ k.size ≤ 100 := fun i y hi hy => by
    obtain ⟨K, hK⟩ := t.lk_some hy
    exact ⟨by rw [hK]; simp, (h.ok.ck i k y hi hy).2.1⟩
  rcases hk with ⟨w, hw, rfl⟩ | hk
  · obtain ⟨_, i, hi, hq⟩ := h.ok.w1 o w hw
    exact key i w (lt3 hi) hq
  · obtain ⟨w, e⟩ := Option.ne_none_iff_exists'.1 hk
    exact key 0 w (by decide) (h.ok.h1 o k w e).1
end
end Go.Proofs.Ytjojempjmpaaaaa

namespace Go.Proofs.Ytjojempjmpaaaaa
open Go.RowKit
noncomputable def goneL (s : Lk) (os : List Int) : Lk := os.foldl goneT s
section
variable {s s' : Lk} {os : List Int} {o : Int} {k : ByteArray}
theorem goneL_nil : goneL s [] = s := rfl
theorem goneL_snoc : goneL s (os ++ [o]) = goneT (goneL s os) o := by unfold goneL; rw [List.foldl_append]; rfl
theorem goneL_all (h : LkC s) : LkC (goneL s os) ∧ (goneL s os).lk = s.lk ∧ (goneL s os).con = s.con ∧ (goneL s os).pas = s.pas ∧ (∀ i k y, y ∈ (goneL s os).q i k → y ∈ s.q i k) ∧ (∀ o, s.wt o = none → (goneL s os).wt o = none) := by
  unfold goneL
  induction os generalizing s with
  | nil => exact ⟨h, rfl, rfl, rfl, fun _ _ _ e => e, fun _ e => e⟩
  | cons a t ih =>
    obtain ⟨h1, h2, h3, h4, h5, h6⟩ := ih (s := goneT s a) h.goneT
    refine ⟨h1, h2, h3, h4, fun i k y hy => (goneT_sub (h5 i k y hy)).1, fun o e => h6 o ?_⟩
    show updM s.wt a none o = none
    by_cases c : o = a
    · rw [c, updM_same]
    · rw [updM_other _ _ c]; exact e
theorem goneL_in (h : LkC s) (ho : o ∈ os) : (goneL s os).wt o = none := by
  obtain ⟨a, b, rfl⟩ := List.append_of_mem ho
  have e : goneL s (a ++ o :: b) = goneL (goneT (goneL s a) o) b := by unfold goneL; rw [List.foldl_append]; rfl
  rw [e]
  exact (goneL_all (goneL_all h).1.goneT).2.2.2.2.2 o (updM_same _ _ _)
theorem Wn.sub {c : Nat} (h : Wn s c) (hs : ∀ i k y, y ∈ s'.q i k → y ∈ s.q i k) : Wn s' c := by
  obtain ⟨L, h1, h2⟩ := h
  exact ⟨L, h1, fun i k w hi hw => h2 i k w hi (hs i k w hw)⟩
/-- Between acts. -/
structure Good (s : Lk) : Prop where
  c : LkC s
  st : ∀ k, Settled k s
theorem PassL.good {s0 : Lk} {ks : List ByteArray} {os : List Int} {c : Nat} (h : PassL s ks os s') (hc : LkC s) (hw : Wn s c) (hn : ks.Nodup) (hg : Good s0) (ho : ∀ k, k ∉ ks → SameAt s0 s k) : Good s' := by
  obtain ⟨h1, h2, _, _, h5⟩ := h.all hc hw hn
  refine ⟨h1, fun k => ?_⟩
  by_cases e : k ∈ ks
  · exact h5 k e
  · exact (hg.st k).of ((ho k e).trans (h2.oth k e))
end
end Go.Proofs.Ytjojempjmpaaaaa

namespace Go.Proofs.Ytjojempjmpaaaaa
open Go.RowKit
/-- Who must wait stands in a part of its key's line. -/
noncomputable def waitG (s : Lk) (i : Nat) (w : Nat) (x : Wc) : Lk := { s with q := updQ s.q i x.k (s.q i x.k ++ [w]), con := updC s.con w x, wt := updM s.wt x.ow (some w) }
inductive AskR (s : Lk) (o : Int) (k : ByteArray) (b : Bool) : Int → Lk → Prop
  | neg : o < 0 → AskR s o k b 1 s
  | state (w : Nat) : 0 ≤ o → s.wt o = some w → AskR s o k b 12 s
  | has (h0 : Nat) : 0 ≤ o → s.wt o = none → s.hd o k = some h0 → ((s.con h0).wr = true ∨ b = false) → AskR s o k b 0 s
  | up (K h0 : Nat) : 0 ≤ o → s.wt o = none → s.hd o k = some h0 → (s.con h0).wr = false → b = true → freeB s.con ⟨k, b, o⟩ (s.q 0 k) = true → AskR s o k b 0 (upS (lockS s k K) h0 ⟨k, b, o⟩)
  | upw (K h0 w : Nat) : 0 ≤ o → s.wt o = none → s.hd o k = some h0 → (s.con h0).wr = false → b = true → freeB s.con ⟨k, b, o⟩ (s.q 0 k) = false → (∀ i k', i < 3 → w ∉ s.q i k') → AskR s o k b 10 (waitG (lockS s k K) 1 w ⟨k, b, o⟩)
  | hold (K m w : Nat) : 0 ≤ o → s.wt o = none → s.hd o k = none → s.q 1 k ++ s.q 2 k = [] → freeB s.con ⟨k, b, o⟩ (s.q 0 k) = true → (∀ i k', i < 3 → w ∉ s.q i k') → AskR s o k b 0 (heldS (lockS s k K) m w ⟨k, b, o⟩)
  | wait (K w : Nat) : 0 ≤ o → s.wt o = none → s.hd o k = none → (s.q 1 k ++ s.q 2 k ≠ [] ∨ freeB s.con ⟨k, b, o⟩ (s.q 0 k) = false) → (∀ i k', i < 3 → w ∉ s.q i k') → AskR s o k b 10 (waitG (lockS s k K) 2 w ⟨k, b, o⟩)
section
variable {s : Lk} {w i : Nat} {x : Wc} {k : ByteArray}
theorem waitG_q {j : Nat} {k' : ByteArray} (h : ¬ (j = i ∧ k' = x.k)) : (waitG s i w x).q j k' = s.q j k' := updQ_other _ _ h
theorem heldS_q {m j : Nat} {k' : ByteArray} (h : ¬ (j = 0 ∧ k' = x.k)) : (heldS s m w x).q j k' = s.q j k' := updQ_other _ _ h
theorem freeB_nil {con : Nat → Wc} {x : Wc} : freeB con x [] = true := rfl
theorem LkC.lockS (h : LkC s) (k : ByteArray) (K : Nat) : LkC (lockS s k K) := ⟨⟨h.ok.h1, h.ok.h2, h.ok.ck, h.ok.w1, h.ok.w2, h.ok.r1, h.ok.r2, h.ok.cp⟩, h.qd, h.nd, h.q3⟩
theorem Wn.lockS {c : Nat} (h : Wn s c) (k : ByteArray) (K : Nat) : Wn (lockS s k K) c := h
/-- One that must wait. -/
theorem LkC.wait (h : LkC s) (hi : (i = 1 ∧ s.hd x.ow x.k ≠ none) ∨ (i = 2 ∧ s.hd x.ow x.k = none)) (hw : ∀ i k', i < 3 → w ∉ s.q i k') (ht : s.wt x.ow = none) (hk : x.k.size ≤ 100) (hwf : (Lit.int .i64 x.ow).wf = true) :
    LkC (waitG s i w x) ∧ (∀ j k' y, j < 3 → (y ∈ (waitG s i w x).q j k' ↔ y ∈ s.q j k' ∨ (y = w ∧ j = i ∧ k' = x.k))) := by
  have i3 : i = 1 ∨ i = 2 := hi.imp (·.1) (·.1)
  have mem : ∀ j k' y, j < 3 → (y ∈ (waitG s i w x).q j k' ↔ y ∈ s.q j k' ∨ (y = w ∧ j = i ∧ k' = x.k)) := fun j k' y hj => by
    show y ∈ updQ s.q i x.k (s.q i x.k ++ [w]) j k' ↔ _
    by_cases e : j = i ∧ k' = x.k
    · obtain ⟨rfl, rfl⟩ := e
      rw [updQ_same, List.mem_append, List.mem_singleton]
      simp
    · rw [updQ_other _ _ e]
      exact ⟨.inl, fun c => c.elim id (fun c => absurd c.2 e)⟩
  have cn : ∀ y, y ≠ w → (waitG s i w x).con y = s.con y := fun y e => updC_other _ _ e
  have cw : (waitG s i w x).con w = x := updC_same _ _ _
  have ne : ∀ {j k' y}, j < 3 → y ∈ s.q j k' → y ≠ w := fun {j k' y} hj c e => hw j k' hj (e ▸ c)
  refine ⟨⟨⟨fun o k' y e => ?_, fun k' y c => ?_, fun j k' y hj c => ?_, fun o y e => ?_, fun j k' y hj c => ?_, fun k' y c => ?_, fun k' y c => ?_, fun k' y z c d hyz => ?_⟩, fun a b k1 k2 y ha hb e1 e2 => ?_, fun j k' hj => ?_, fun j k' hj => ?_⟩, mem⟩
  · obtain ⟨e1, e2⟩ := h.ok.h1 o k' y e
    exact ⟨(mem 0 k' y (by decide)).2 (.inl e1), by rw [cn y (ne (by decide) e1)]; exact e2⟩
  · rcases (mem 0 k' y (by decide)).1 c with c | ⟨_, c, _⟩
    · rw [cn y (ne (by decide) c)]; exact h.ok.h2 k' y c
    · omega
  · rcases (mem j k' y hj).1 c with c | ⟨rfl, _, rfl⟩
    · rw [cn y (ne hj c)]; exact h.ok.ck j k' y hj c
    · rw [cw]; exact ⟨rfl, hk, hwf⟩
  · have e : updM s.wt x.ow (some w) o = some y := e
    rcases updM_cases e with ⟨c, d⟩ | ⟨c, d⟩
    · injection d with d
      subst d
      rw [cw]
      exact ⟨c.symm, i, i3, (mem i _ w (lt3 i3)).2 (.inr ⟨rfl, rfl, rfl⟩)⟩
    · obtain ⟨e1, j, hj, e2⟩ := h.ok.w1 o y d
      rw [cn y (ne (lt3 hj) e2)]
      exact ⟨e1, j, hj, (mem j _ y (lt3 hj)).2 (.inl e2)⟩
  · show updM s.wt x.ow (some w) _ = some y
    rcases (mem j k' y (lt3 hj)).1 c with c | ⟨rfl, _, _⟩
    · rw [cn y (ne (lt3 hj) c)]
      have e1 := h.ok.w2 j k' y hj c
      rw [updM_other _ _ (fun e => by rw [e, ht] at e1; cases e1)]
      exact e1
    · rw [cw, updM_same]
  · rcases (mem 1 k' y (by decide)).1 c with c | ⟨rfl, c, rfl⟩
    · rw [cn y (ne (by decide) c)]; exact h.ok.r1 k' y c
    · rw [cw]
      exact (hi.resolve_right (fun q => by omega)).2
  · rcases (mem 2 k' y (by decide)).1 c with c | ⟨rfl, c, rfl⟩
    · rw [cn y (ne (by decide) c)]; exact h.ok.r2 k' y c
    · rw [cw]
      exact (hi.resolve_left (fun q => by omega)).2
  · rcases (mem 0 k' y (by decide)).1 c with c | ⟨_, c, _⟩
    · rcases (mem 0 k' z (by decide)).1 d with d | ⟨_, d, _⟩
      · rw [cn y (ne (by decide) c)]; exact h.ok.cp k' y z c d hyz
      · omega
    · omega
  · rcases (mem a k1 y ha).1 e1 with c1 | ⟨c1, c2, c3⟩ <;> rcases (mem b k2 y hb).1 e2 with d1 | ⟨d1, d2, d3⟩
    · exact h.qd a b k1 k2 y ha hb c1 d1
    · exact absurd (d1 ▸ c1) (hw a k1 ha)
    · exact absurd (c1 ▸ d1) (hw b k2 hb)
    · exact ⟨by omega, by rw [c3, d3]⟩
  · show (updQ s.q i x.k (s.q i x.k ++ [w]) j k').Nodup
    by_cases e : j = i ∧ k' = x.k
    · obtain ⟨rfl, rfl⟩ := e
      rw [updQ_same, List.nodup_append]
      exact ⟨h.nd j _ hj, by simp, fun a ha b hb e => hw j x.k hj (by rw [List.mem_singleton.1 hb] at e; rw [← e]; exact ha)⟩
    · rw [updQ_other _ _ e]; exact h.nd j k' hj
  · exact (updQ_other _ _ (fun c => by omega)).trans (h.q3 j k' hj)
theorem Wn.wait {c : Nat} (h : Wn s c) (hm : ∀ j k' y, j < 3 → (y ∈ (waitG s i w x).q j k' ↔ y ∈ s.q j k' ∨ (y = w ∧ j = i ∧ k' = x.k))) : Wn (waitG s i w x) (c + 1) := by
  obtain ⟨L, hl, hL⟩ := h
  refine ⟨w :: L, by rw [List.length_cons]; omega, fun j k' y hj hy => ?_⟩
  rcases (hm j k' y (lt3 hj)).1 hy with c | ⟨c, _⟩
  · exact List.mem_cons_of_mem _ (hL j k' y hj c)
  · rw [c]; exact List.mem_cons_self ..
/-- Who clashes with what is read, clashes with what is written. -/
theorem clash_up {x y z : Wc} (h : clash x y = true) (ho : z.ow = y.ow) (hw : z.wr = true) : clash x z = true := by
  unfold clash at h ⊢
  rw [ho, hw]
  simp only [Bool.and_eq_true] at h
  simp [h.1]
theorem freeB_up {con con' : Nat → Wc} {x : Wc} {q : List Nat} (h : freeB con x q = false) (hc : ∀ y, y ∈ q → clash x (con y) = true → clash x (con' y) = true) : freeB con' x q = false := by
  unfold freeB at h ⊢
  rw [Bool.not_eq_false', List.any_eq_true] at h ⊢
  obtain ⟨z, h1, h2⟩ := h
  exact ⟨z, h1, hc z (endsL_mem h1) h2⟩
/-- What Ask keeps. -/
theorem AskR.good {s' : Lk} {o : Int} {b : Bool} {e : Int} {c : Nat} (h : AskR s o k b e s') (hg : Good s) (hw : Wn s c) (hk : k.size ≤ 100) (hwf : (Lit.int .i64 o).wf = true) : Good s' ∧ Wn s' (c + 1) ∧ s'.pas = s.pas := by
  have w1 : Wn s (c + 1) := by
    obtain ⟨L, h1, h2⟩ := hw
    exact ⟨L, by omega, h2⟩
  cases h with
  | neg h => exact ⟨hg, w1, rfl⟩
  | state w h h2 => exact ⟨hg, w1, rfl⟩
  | has h0 h1 h2 h3 h4 => exact ⟨hg, w1, rfl⟩
  | up K h0 h1 h2 h3 h4 h5 h6 =>
    refine ⟨⟨(hg.c.lockS k K).up (x := ⟨k, b, o⟩) h3 h6, fun k' => ?_⟩, w1, rfl⟩
    obtain ⟨m0, mo⟩ := hg.c.ok.h1 o k h0 h3
    by_cases e : k' = k
    · subst e
      refine ⟨fun _ c => ?_, fun z hz => ?_⟩
      · have c : s.q 0 k' = [] := c
        rw [c] at m0; cases m0
      have hz : (s.q 1 k' ++ s.q 2 k').head? = some z := hz
      have hzn : z ≠ h0 := fun c => by
        rcases List.mem_append.1 (List.mem_of_head? hz) with q | q
        · have := (hg.c.qd 1 0 k' k' z (by decide) (by decide) q (c ▸ m0)).1; omega
        · have := (hg.c.qd 2 0 k' k' z (by decide) (by decide) q (c ▸ m0)).1; omega
      have e1 : (upS (Go.Proofs.Ytjojempjmpaaaaa.lockS s k' K) h0 ⟨k', b, o⟩).con z = s.con z := updC_other _ _ hzn
      rw [e1]
      refine freeB_up ((hg.st k').f z hz) (fun y _ hy2 => ?_)
      by_cases c : y = h0
      · subst c
        exact clash_up hy2 (by show (updC s.con y _ y).ow = _; rw [updC_same]; rfl) (by show (updC s.con y _ y).wr = true; rw [updC_same]; exact h5)
      · rw [show (upS (Go.Proofs.Ytjojempjmpaaaaa.lockS s k' K) h0 ⟨k', b, o⟩).con y = s.con y from updC_other _ _ c]; exact hy2
    · refine (hg.st k').of ⟨fun _ _ => rfl, fun j y hj hy => updC_other _ _ (fun c => e ?_), updM_other _ _ e⟩
      exact (hg.c.qd j 0 k' k y hj (by decide) hy (c ▸ m0)).2
  | upw K h0 w h1 h2 h3 h4 h5 h6 h7 =>
    obtain ⟨m0, mo⟩ := hg.c.ok.h1 o k h0 h3
    obtain ⟨g1, mem⟩ := (hg.c.lockS k K).wait (i := 1) (w := w) (x := ⟨k, b, o⟩) (.inl ⟨rfl, by show s.hd o k ≠ none; rw [h3]; simp⟩) h7 h2 hk hwf
    have cn : ∀ {j k' y}, j < 3 → y ∈ s.q j k' → (waitG (Go.Proofs.Ytjojempjmpaaaaa.lockS s k K) 1 w ⟨k, b, o⟩).con y = s.con y := fun {j k' y} hj c => updC_other _ _ (fun e => h7 j k' hj (e ▸ c))
    refine ⟨⟨g1, fun k' => ?_⟩, Wn.wait (s := Go.Proofs.Ytjojempjmpaaaaa.lockS s k K) hw mem, rfl⟩
    by_cases e : k' = k
    · subst e
      have q0 : (waitG (Go.Proofs.Ytjojempjmpaaaaa.lockS s k' K) 1 w ⟨k', b, o⟩).q 0 k' = s.q 0 k' := waitG_q (fun c => absurd c.1 (by decide))
      have q1 : (waitG (Go.Proofs.Ytjojempjmpaaaaa.lockS s k' K) 1 w ⟨k', b, o⟩).q 1 k' = s.q 1 k' ++ [w] := updQ_same _ _ _ _
      refine ⟨fun _ c => ?_, fun z hz => ?_⟩
      · rw [q0] at c
        rw [c] at m0; cases m0
      · rw [q0, freeB_congr (con := s.con) (fun y hy => cn (by decide) hy)]
        rw [q1] at hz
        cases hq : s.q 1 k' with
        | nil =>
          rw [hq] at hz
          have hz : w = z := by simpa using hz
          subst hz
          rw [show (waitG (Go.Proofs.Ytjojempjmpaaaaa.lockS s k' K) 1 w ⟨k', b, o⟩).con w = ⟨k', b, o⟩ from updC_same _ _ _]
          exact h6
        | cons a t =>
          rw [hq] at hz
          have hz : a = z := by simpa using hz
          subst hz
          rw [cn (j := 1) (k' := k') (by decide) (by rw [hq]; exact List.mem_cons_self ..)]
          exact (hg.st k').f a (by rw [hq]; rfl)
    · exact (hg.st k').of ⟨fun j hj => waitG_q (fun c => e c.2), fun j y hj hy => cn hj hy, updM_other _ _ e⟩
  | hold K m w h1 h2 h3 h4 h5 h6 =>
    obtain ⟨g1, mem⟩ := (hg.c.lockS k K).held (m := m) (w := w) (x := ⟨k, b, o⟩) h6 h3 h2 h5 hk hwf
    have cn : ∀ {j k' y}, j < 3 → y ∈ s.q j k' → (heldS (Go.Proofs.Ytjojempjmpaaaaa.lockS s k K) m w ⟨k, b, o⟩).con y = s.con y := fun {j k' y} hj c => updC_other _ _ (fun e => h6 j k' hj (e ▸ c))
    refine ⟨⟨g1, fun k' => ?_⟩, ?_, rfl⟩
    · by_cases e : k' = k
      · subst e
        have e12 := List.append_eq_nil_iff.1 h4
        have q0 : (heldS (Go.Proofs.Ytjojempjmpaaaaa.lockS s k' K) m w ⟨k', b, o⟩).q 0 k' = s.q 0 k' ++ [w] := updQ_same _ _ _ _
        have q1 : (heldS (Go.Proofs.Ytjojempjmpaaaaa.lockS s k' K) m w ⟨k', b, o⟩).q 1 k' = [] := (heldS_q (fun c => absurd c.1 (by decide))).trans e12.1
        have q2 : (heldS (Go.Proofs.Ytjojempjmpaaaaa.lockS s k' K) m w ⟨k', b, o⟩).q 2 k' = [] := (heldS_q (fun c => absurd c.1 (by decide))).trans e12.2
        refine ⟨fun _ c => by rw [q0] at c; simp at c, fun z hz => ?_⟩
        rw [q1, q2] at hz; cases hz
      · exact (hg.st k').of ⟨fun j hj => updQ_other _ _ (fun c => e c.2), fun j y hj hy => cn hj hy, updM_other _ _ e⟩
    · obtain ⟨L, hl, hL⟩ := w1
      refine ⟨L, hl, fun j k' y hj hy => ?_⟩
      rcases (mem j k' y (lt3 hj)).1 hy with c | ⟨_, c, _⟩
      · exact hL j k' y hj c
      · omega
  | wait K w h1 h2 h3 h4 h5 =>
    obtain ⟨g1, mem⟩ := (hg.c.lockS k K).wait (i := 2) (w := w) (x := ⟨k, b, o⟩) (.inr ⟨rfl, h3⟩) h5 h2 hk hwf
    have cn : ∀ {j k' y}, j < 3 → y ∈ s.q j k' → (waitG (Go.Proofs.Ytjojempjmpaaaaa.lockS s k K) 2 w ⟨k, b, o⟩).con y = s.con y := fun {j k' y} hj c => updC_other _ _ (fun e => h5 j k' hj (e ▸ c))
    refine ⟨⟨g1, fun k' => ?_⟩, Wn.wait (s := Go.Proofs.Ytjojempjmpaaaaa.lockS s k K) hw mem, rfl⟩
    by_cases e : k' = k
    · subst e
      have q0 : (waitG (Go.Proofs.Ytjojempjmpaaaaa.lockS s k' K) 2 w ⟨k', b, o⟩).q 0 k' = s.q 0 k' := waitG_q (fun c => absurd c.1 (by decide))
      have q1 : (waitG (Go.Proofs.Ytjojempjmpaaaaa.lockS s k' K) 2 w ⟨k', b, o⟩).q 1 k' = s.q 1 k' := waitG_q (fun c => absurd c.1 (by decide))
      have q2 : (waitG (Go.Proofs.Ytjojempjmpaaaaa.lockS s k' K) 2 w ⟨k', b, o⟩).q 2 k' = s.q 2 k' ++ [w] := updQ_same _ _ _ _
      have n0 : s.q 0 k' ≠ [] := fun c => by
        rcases h4 with d | d
        · cases hh : (s.q 1 k' ++ s.q 2 k').head? with
          | none => exact d (List.head?_eq_none_iff.1 hh)
          | some z =>
            have := (hg.st k').f z hh
            rw [c, freeB_nil] at this; cases this
        · rw [c, freeB_nil] at d; cases d
      refine ⟨fun _ => by rw [q0]; exact n0, fun z hz => ?_⟩
      rw [q0, freeB_congr (con := s.con) (fun y hy => cn (by decide) hy)]
      rw [q1, q2, ← List.append_assoc] at hz
      cases hq : s.q 1 k' ++ s.q 2 k' with
      | nil =>
        rw [hq] at hz
        have hz : w = z := by simpa using hz
        subst hz
        rw [show (waitG (Go.Proofs.Ytjojempjmpaaaaa.lockS s k' K) 2 w ⟨k', b, o⟩).con w = ⟨k', b, o⟩ from updC_same _ _ _]
        exact h4.resolve_left (fun d => d hq)
      | cons a t =>
        rw [hq] at hz
        have hz : a = z := by simpa using hz
        subst hz
        have ha : a ∈ s.q 1 k' ++ s.q 2 k' := by rw [hq]; exact List.mem_cons_self ..
        have e1 : (waitG (Go.Proofs.Ytjojempjmpaaaaa.lockS s k' K) 2 w ⟨k', b, o⟩).con a = s.con a := by
          rcases List.mem_append.1 ha with q | q
          · exact cn (j := 1) (by decide) q
          · exact cn (j := 2) (by decide) q
        rw [e1]
        exact (hg.st k').f a (by rw [hq]; rfl)
    · exact (hg.st k').of ⟨fun j hj => updQ_other _ _ (fun c => e c.2), fun j y hj hy => cn hj hy, updM_other _ _ e⟩
end
end Go.Proofs.Ytjojempjmpaaaaa

namespace Go.Proofs.Ytjojempjmpaaaaa
open Go.RowKit
/-- At most so many hold and wait. -/
def Bn (s : Lk) (d : Nat) : Prop := ∃ L : List Nat, L.length ≤ d ∧ ∀ i k w, i < 3 → w ∈ s.q i k → w ∈ L
theorem nd_len : ∀ {l L : List Nat}, l.Nodup → (∀ x, x ∈ l → x ∈ L) → l.length ≤ L.length
  | [], _, _, _ => Nat.zero_le _
  | a :: t, L, hn, hs => by
    have h1 := List.nodup_cons.1 hn
    have ha := hs a (List.mem_cons_self ..)
    have h2 := nd_len (l := t) (L := L.erase a) h1.2 (fun x hx => (List.mem_erase_of_ne (fun e => h1.1 (by rw [← e]; exact hx))).2 (hs x (List.mem_cons_of_mem _ hx)))
    have h3 := List.length_erase_of_mem ha
    have h4 := List.length_pos_of_mem ha
    rw [List.length_cons]; omega
section
variable {s s' : Lk} {d : Nat}
theorem Bn.len (h : Bn s d) (hc : LkC s) {i : Nat} (hi : i < 3) (k : ByteArray) : (s.q i k).length ≤ d := by
  obtain ⟨L, h1, h2⟩ := h
  exact Nat.le_trans (nd_len (hc.nd i k hi) (fun x hx => h2 i k x hi hx)) h1
theorem Bn.sub (h : Bn s d) (hs : ∀ i k w, i < 3 → w ∈ s'.q i k → ∃ j k', j < 3 ∧ w ∈ s.q j k') : Bn s' d := by
  obtain ⟨L, h1, h2⟩ := h
  refine ⟨L, h1, fun i k w hi hw => ?_⟩
  obtain ⟨j, k', hj, e⟩ := hs i k w hi hw
  exact h2 j k' w hj e
theorem Bn.passed {P : ByteArray → Prop} (h : Bn s d) (hp : Passed P s s') : Bn s' d := h.sub (fun i k w hi hw => by
  by_cases e : i = 0
  · subst e
    obtain ⟨j, hj, e⟩ := hp.hs k w hw
    exact ⟨j, k, hj, e⟩
  · exact ⟨i, k, hi, hp.sub i k w (by omega) hw⟩)
theorem Bn.add (h : Bn s d) {w : Nat} (hs : ∀ i k y, i < 3 → y ∈ s'.q i k → y ∈ s.q i k ∨ y = w) : Bn s' (d + 1) := by
  obtain ⟨L, h1, h2⟩ := h
  refine ⟨w :: L, by rw [List.length_cons]; omega, fun i k y hi hy => ?_⟩
  rcases hs i k y hi hy with c | c
  · exact List.mem_cons_of_mem _ (h2 i k y hi c)
  · rw [c]; exact List.mem_cons_self ..
theorem mem_updQ_snoc {q : Nat → ByteArray → List Nat} {i j : Nat} {k k' : ByteArray} {w y : Nat} (h : y ∈ updQ q i k (q i k ++ [w]) j k') : y ∈ q j k' ∨ y = w := by
  by_cases e : j = i ∧ k' = k
  · obtain ⟨rfl, rfl⟩ := e
    rw [updQ_same, List.mem_append, List.mem_singleton] at h
    exact h
  · rw [updQ_other _ _ e] at h
    exact .inl h
theorem AskR.bn {o : Int} {k : ByteArray} {b : Bool} {e : Int} (h : AskR s o k b e s') (hb : Bn s d) : Bn s' (d + 1) := by
  have mono : Bn s (d + 1) := by
    obtain ⟨L, h1, h2⟩ := hb
    exact ⟨L, by omega, h2⟩
  cases h with
  | neg h => exact mono
  | state w h h2 => exact mono
  | has h0 h1 h2 h3 h4 => exact mono
  | up K h0 h1 h2 h3 h4 h5 h6 => exact mono
  | upw K h0 w h1 h2 h3 h4 h5 h6 h7 => exact hb.add (w := w) (fun i k y _ hy => mem_updQ_snoc hy)
  | hold K m w h1 h2 h3 h4 h5 h6 => exact hb.add (w := w) (fun i k y _ hy => mem_updQ_snoc hy)
  | wait K w h1 h2 h3 h4 h5 => exact hb.add (w := w) (fun i k y _ hy => mem_updQ_snoc hy)
/-- What is known behind so many acts. -/
structure Ac (s : Lk) (n i : Nat) : Prop where
  g : Good s
  w : ∃ c, Wn s c ∧ c ≤ i ∧ n + 3 * c ≤ 12 * i
  b : Bn s i
variable {n i : Nat}
theorem Ac.nb (h : Ac s n i) : n ≤ 12 * i := by
  obtain ⟨c, _, _, h3⟩ := h.w
  omega
theorem Ac.lens (h : Ac s n i) (k : ByteArray) : (s.q 0 k).length + ((s.q 1 k).length + (s.q 2 k).length) ≤ 3 * i := by
  have h0 := h.b.len h.g.c (i := 0) (by decide) k
  have h1 := h.b.len h.g.c (i := 1) (by decide) k
  have h2 := h.b.len h.g.c (i := 2) (by decide) k
  omega
theorem Ac.mono (h : Ac s n i) : Ac s n (i + 1) := by
  obtain ⟨c, h1, h2, h3⟩ := h.w
  obtain ⟨L, h4, h5⟩ := h.b
  exact ⟨h.g, ⟨c, h1, by omega, by omega⟩, ⟨L, by omega, h5⟩⟩
theorem Ac.ask (h : Ac s n i) {o : Int} {k : ByteArray} {b : Bool} {e : Int} (hr : AskR s o k b e s') (hk : k.size ≤ 100) (hwf : (Lit.int .i64 o).wf = true) : Ac s' (n + 3) (i + 1) ∧ s'.pas = s.pas := by
  obtain ⟨c, h1, h2, h3⟩ := h.w
  obtain ⟨g1, g2, g3⟩ := hr.good h.g h1 hk hwf
  exact ⟨⟨g1, ⟨c + 1, g2, by omega, by omega⟩, hr.bn h.b⟩, g3⟩
theorem leftT_q {o : Int} {j : Nat} {k : ByteArray} {y : Nat} (hy : y ∈ (leftT s o).q j k) : y ∈ s.q j k := by
  by_cases e : j = 0
  · subst e; exact hy
  · have hy : y ∈ if j = 0 then s.q 0 k else fl s.con o (s.q j k) := hy
    rw [if_neg e] at hy
    exact (mem_fl.1 hy).1
theorem leftT_same (h : LkC s) {o : Int} {k : ByteArray} {w : Nat} (hw : s.wt o = some w) (hk : (s.con w).k ≠ k) : SameAt s (leftT s o) k := by
  refine ⟨fun j hj => ?_, fun _ _ _ _ => rfl, rfl⟩
  by_cases e : j = 0
  · subst e; rfl
  · show (if j = 0 then _ else fl s.con o (s.q j k)) = _
    rw [if_neg e]
    refine fl_id (fun y hy c => hk ?_)
    have h1 := h.ok.w2 j k y (by omega) hy
    rw [c, hw] at h1
    obtain rfl := Option.some.inj h1
    exact (h.ok.ck j k w hj hy).1
/-- Passing keeps all. -/
theorem Ac.pass (h : Ac s n i) {s1 : Lk} {ks : List ByteArray} {ps : List Int} (hp : PassL s1 ks ps s') (hc : LkC s1) (hs : ∀ i k y, y ∈ s1.q i k → y ∈ s.q i k) (hn : ks.Nodup) (ho : ∀ k, k ∉ ks → SameAt s s1 k) {m : Nat} (hm : m ≤ n + 12 + 3 * ps.length) : Ac s' m (i + 1) := by
  obtain ⟨c, h1, h2, h3⟩ := h.w
  have w1 := h1.sub hs
  obtain ⟨f1, f2, f3, f4, _⟩ := hp.all hc w1 hn
  have b1 : Bn s1 i := h.b.sub (fun j k w hj hw => ⟨j, k, hj, hs j k w hw⟩)
  obtain ⟨L, h4, h5⟩ := b1.passed f2
  exact ⟨hp.good hc w1 hn h.g ho, ⟨c - ps.length, f4, by omega, by omega⟩, ⟨L, by omega, h5⟩⟩
theorem Ac.quit (h : Ac s n i) {o : Int} {w : Nat} (hw : s.wt o = some w) {ps : List Int} (hp : PassL (leftT s o) (keysL [(s.con w).k]) ps s') : Ac s' (n + 1 + 3 * ps.length) (i + 1) ∧ s'.pas = s.pas :=
  ⟨h.pass hp h.g.c.leftT.1 (fun _ _ _ hy => leftT_q hy) (keysL_nd _) (fun k hk => leftT_same h.g.c hw (fun e => hk (keysL_mem.2 (by rw [e]; simp)))) (by omega), hp.pas⟩
theorem Ac.free (h : Ac s n i) {os : List Int} {kl : List ByteArray} (hl : os.length ≤ 12) {ps : List Int} (hp : PassL (goneL s os) (keysL kl) ps s') (ho : ∀ k, k ∉ kl → SameAt s (goneL s os) k) : Ac s' (n + os.length + 3 * ps.length) (i + 1) := by
  obtain ⟨g1, _, _, _, g5, _⟩ := goneL_all (os := os) h.g.c
  exact h.pass hp g1 g5 (keysL_nd _) (fun k hk => ho k (fun c => hk (keysL_mem.2 c))) (by omega)
theorem ac_none : Ac Lk.none 0 0 := ⟨⟨⟨lkOk_none, fun _ _ _ _ _ _ _ h => (by cases h), fun _ _ _ => List.nodup_nil, fun _ _ _ => rfl⟩, fun _ => ⟨fun h => absurd rfl h, fun _ h => by cases h⟩⟩, ⟨0, ⟨[], Nat.le_refl _, fun _ _ _ _ h => (by cases h)⟩, Nat.le_refl _, Nat.le_refl _⟩, ⟨[], Nat.le_refl _, fun _ _ _ _ h => (by cases h)⟩⟩
end
end Go.Proofs.Ytjojempjmpaaaaa
