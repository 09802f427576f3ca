/-
  A TABLE OF LOCKS: an owner leaves its line, or all that it holds, as functions.
  A TABLE OF LOCKS: many owners leave, as a function; what passing leaves settled.
-/
import Derived.Test.YtgabdlnbencglaaLkPassG
namespace Go.Proofs.Ytgabdlnbencglaa
open Go.RowKit
/-- The others of a queue. -/
noncomputable def fl (con : Nat → Wc) (o : Int) (q : List Nat) : List Nat := q.filter fun y => decide ((con y).ow ≠ o)
section
variable {con : Nat → Wc} {o : Int} {q q1 q2 : List Nat} {w y : Nat}
theorem mem_fl : y ∈ fl con o q ↔ y ∈ q ∧ (con y).ow ≠ o := by unfold fl; rw [List.mem_filter, decide_eq_true_iff]
theorem fl_id (h : ∀ y, y ∈ q → (con y).ow ≠ o) : fl con o q = q := List.filter_eq_self.2 (fun y hy => decide_eq_true (h y hy))
theorem fl_split (e : q = q1 ++ w :: q2) (hn : q.Nodup) (hw : (con w).ow = o) (hu : ∀ y, y ∈ q → (con y).ow = o → y = w) : fl con o q = q1 ++ q2 := by
  subst e
  have h1 := List.nodup_append.1 hn
  have h2 := List.nodup_cons.1 h1.2.1
  have e1 : fl con o q1 = q1 := fl_id (fun y hy c => h1.2.2 y hy w (List.mem_cons_self ..) (hu y (List.mem_append_left _ hy) c))
  have e2 : fl con o q2 = q2 := fl_id (fun y hy c => h2.1 (by rw [← hu y (List.mem_append_right _ (List.mem_cons_of_mem _ hy)) c]; exact hy))
  unfold fl at e1 e2 ⊢
  rw [List.filter_append, List.filter_cons, if_neg (by rw [hw]; simp), e1, e2]
end
noncomputable def leftT (s : Lk) (o : Int) : Lk := { s with q := fun i k => if i = 0 then s.q 0 k else fl s.con o (s.q i k), wt := updM s.wt o none }
noncomputable def goneH (s : Lk) (o : Int) : Lk := { s with q := fun i k => if i = 0 then fl s.con o (s.q 0 k) else s.q i k, hm := updM s.hm o none, hd := clrH s.hd o }
noncomputable def dropS (s : Lk) (o : Int) (dn : List ByteArray) : Lk := by
  classical exact { s with q := fun i k => if i = 0 ∧ k ∈ dn then fl s.con o (s.q 0 k) else s.q i k }
noncomputable def goneT (s : Lk) (o : Int) : Lk := goneH (leftT s o) o
section
variable {s : Lk} {o : Int} {k : ByteArray} {w : Nat}
theorem LkC.own1 (h : LkC s) {y : Nat} (hy : y ∈ s.q 0 k) (hd : s.hd o k = some w) (ho : (s.con y).ow = o) : y = w := by
  have := h.ok.h2 k y hy
  rw [ho, hd] at this
  exact (Option.some.inj this).symm
theorem leftT_none (h : LkC s) (hw : s.wt o = none) : leftT s o = s := by
  have e1 : (fun i k => if i = 0 then s.q 0 k else fl s.con o (s.q i k)) = s.q := by
    funext i k
    by_cases e : i = 0
    · rw [if_pos e, e]
    · rw [if_neg e]
      by_cases e3 : i < 3
      · refine fl_id (fun y hy c => ?_)
        have := h.ok.w2 i k y (by omega) hy
        rw [c, hw] at this; cases this
      · rw [h.q3 i k (by omega)]; rfl
  have e2 : updM s.wt o none = s.wt := updM_id hw
  unfold leftT
  rw [e1, e2]
theorem leftT_some (h : LkC s) {i : Nat} {q1 q2 : List Nat} (hi : i = 1 ∨ i = 2) (he : s.q i k = q1 ++ w :: q2) (ho : (s.con w).ow = o) : leftT s o = leftG s i k (q1 ++ q2) o := by
  have hw : w ∈ s.q i k := by rw [he]; simp
  have un : ∀ j k' y, (j = 1 ∨ j = 2) → y ∈ s.q j k' → (s.con y).ow = o → y = w := fun j k' y hj hy c => by
    have h1 := h.ok.w2 j k' y hj hy
    have h2 := h.ok.w2 i k w hi hw
    rw [c] at h1
    rw [ho, h1] at h2
    exact Option.some.inj h2
  have e1 : (fun i k => if i = 0 then s.q 0 k else fl s.con o (s.q i k)) = updQ s.q i k (q1 ++ q2) := by
    funext j k'
    by_cases e : j = 0
    · rw [if_pos e, e, updQ_other _ _ (fun c => by omega)]
    · rw [if_neg e]
      by_cases e3 : j < 3
      · by_cases e4 : j = i ∧ k' = k
        · obtain ⟨rfl, rfl⟩ := e4
          rw [updQ_same]
          exact fl_split he (h.nd j k' e3) ho (fun y hy => un j k' y hi hy)
        · rw [updQ_other _ _ e4]
          refine fl_id (fun y hy c => e4 ?_)
          rw [un j k' y (by omega) hy c] at hy
          exact h.qd j i k' k w e3 (lt3 hi) hy hw
      · rw [updQ_other _ _ (fun c => by omega), h.q3 j k' (by omega)]; rfl
  unfold leftT leftG
  rw [e1]
theorem LkC.leftT (h : LkC s) : LkC (leftT s o) ∧ (Go.Proofs.Ytgabdlnbencglaa.leftT s o).wt o = none := by
  refine ⟨?_, updM_same _ _ _⟩
  cases e : s.wt o with
  | none => rw [leftT_none h e]; exact h
  | some w =>
    obtain ⟨ho, i, hi, hw⟩ := h.ok.w1 o w e
    obtain ⟨q1, q2, he⟩ := List.append_of_mem hw
    rw [leftT_some h hi he ho, ← ho]
    have hn := h.nd i (s.con w).k (lt3 hi)
    rw [he] at hn
    have h1 := List.nodup_append.1 hn
    have h2 := List.nodup_cons.1 h1.2.1
    have hn2 : (q1 ++ q2).Nodup := List.nodup_append.2 ⟨h1.1, h2.2, fun a ha b hb => h1.2.2 a ha b (List.mem_cons_of_mem _ hb)⟩
    refine (h.leave hi hw (fun y => ?_) hn2).1
    rw [he, List.mem_append, List.mem_append, List.mem_cons]
    constructor
    · rintro (c | c)
      · exact ⟨.inl c, fun e => h1.2.2 y c w (List.mem_cons_self ..) e⟩
      · exact ⟨.inr (.inr c), fun e => h2.1 (e ▸ c)⟩
    · rintro ⟨c | c | c, d⟩
      · exact .inl c
      · exact absurd c d
      · exact .inr c
theorem LkC.goneH (h : LkC s) (hw : s.wt o = none) : LkC (goneH s o) := by
  have m0 : ∀ k y, y ∈ (Go.Proofs.Ytgabdlnbencglaa.goneH s o).q 0 k ↔ y ∈ s.q 0 k ∧ (s.con y).ow ≠ o := fun k y => mem_fl
  have mi : ∀ i k, i ≠ 0 → (Go.Proofs.Ytgabdlnbencglaa.goneH s o).q i k = s.q i k := fun i k e => if_neg e
  have sub : ∀ i k y, y ∈ (Go.Proofs.Ytgabdlnbencglaa.goneH s o).q i k → y ∈ s.q i k := fun i k y hy => by
    by_cases e : i = 0
    · subst e; exact ((m0 k y).1 hy).1
    · rw [mi i k e] at hy; exact hy
  have hdo : ∀ o' k, o' ≠ o → clrH s.hd o o' k = s.hd o' k := fun o' k e => by unfold clrH; rw [if_neg e]
  have hds : ∀ k, clrH s.hd o o k = none := fun k => by unfold clrH; rw [if_pos rfl]
  refine ⟨⟨fun o' k w e => ?_, fun k w c => ?_, fun i k w hi c => h.ok.ck i k w hi (sub i k w c), fun o' w e => ?_, fun i k w hi c => ?_, fun k w c => ?_, fun k w c => ?_, fun k x y c d => h.ok.cp k x y (sub 0 k x c) (sub 0 k y d)⟩, fun a b k1 k2 x ha hb e1 e2 => h.qd a b k1 k2 x ha hb (sub a k1 x e1) (sub b k2 x e2), fun i k hi => ?_, fun i k hi => ?_⟩
  · have e : clrH s.hd o o' k = some w := e
    by_cases e2 : o' = o
    · rw [e2, hds] at e; cases e
    · rw [hdo o' k e2] at e
      obtain ⟨h1, h2⟩ := h.ok.h1 o' k w e
      exact ⟨(m0 k w).2 ⟨h1, by rw [h2]; exact e2⟩, h2⟩
  · obtain ⟨c1, c2⟩ := (m0 k w).1 c
    show clrH s.hd o (s.con w).ow k = some w
    rw [hdo _ k c2]
    exact h.ok.h2 k w c1
  · obtain ⟨h1, i, hi, h2⟩ := h.ok.w1 o' w e
    exact ⟨h1, i, hi, by rw [mi i _ (by omega)]; exact h2⟩
  · exact h.ok.w2 i k w hi (sub i k w c)
  · have hq := sub 1 k w c
    show clrH s.hd o (s.con w).ow k ≠ none
    rw [hdo _ k (fun e => by
      have := h.ok.w2 1 k w (.inl rfl) hq
      rw [e, hw] at this; cases this)]
    exact h.ok.r1 k w hq
  · have hq := sub 2 k w c
    show clrH s.hd o (s.con w).ow k = none
    by_cases e : (s.con w).ow = o
    · rw [e]; exact hds k
    · rw [hdo _ k e]; exact h.ok.r2 k w hq
  · by_cases e : i = 0
    · subst e
      exact (h.nd 0 k hi).sublist List.filter_sublist
    · rw [mi i k e]; exact h.nd i k hi
  · rw [mi i k (by omega)]; exact h.q3 i k hi
theorem LkC.goneT (h : LkC s) : LkC (goneT s o) := h.leftT.1.goneH h.leftT.2
theorem dropS_nil : dropS s o [] = s := by
  unfold dropS
  simp
theorem dropS_q (dn : List ByteArray) : (k ∉ dn → ∀ i, (dropS s o dn).q i k = s.q i k) ∧ (∀ i, i ≠ 0 → (dropS s o dn).q i k = s.q i k) := by
  unfold dropS
  exact ⟨fun h i => if_neg (fun c => h c.2), fun i e => if_neg (fun c => e c.1)⟩
theorem dropS_sub (dn : List ByteArray) {i : Nat} {y : Nat} (h : y ∈ (dropS s o dn).q i k) : y ∈ s.q i k := by
  unfold dropS at h
  simp only at h
  split at h
  · rename_i e
    rw [e.1]; exact (mem_fl.1 h).1
  · exact h
theorem dropS_snoc (h : LkC s) {dn : List ByteArray} {q1 q2 : List Nat} (hd : s.hd o k = some w) (he : s.q 0 k = q1 ++ w :: q2) : { dropS s o dn with q := updQ (dropS s o dn).q 0 k (q1 ++ q2) } = dropS s o (dn ++ [k]) := by
  classical
  have e1 : updQ (dropS s o dn).q 0 k (q1 ++ q2) = (dropS s o (dn ++ [k])).q := by
    funext i k'
    by_cases e : i = 0 ∧ k' = k
    · obtain ⟨rfl, rfl⟩ := e
      rw [updQ_same]
      unfold dropS
      simp only [List.mem_append, List.mem_singleton, or_true, and_true, if_true]
      exact (fl_split he (h.nd 0 k' (by decide)) (h.ok.h1 _ _ _ hd).2 (fun y hy => h.own1 hy hd)).symm
    · rw [updQ_other _ _ e]
      unfold dropS
      have : (i = 0 ∧ k' ∈ dn ++ [k]) ↔ (i = 0 ∧ k' ∈ dn) := by
        rw [List.mem_append, List.mem_singleton]
        exact ⟨fun c => ⟨c.1, c.2.resolve_right (fun d => e ⟨c.1, d⟩)⟩, fun c => ⟨c.1, .inl c.2⟩⟩
      show (if i = 0 ∧ k' ∈ dn then fl s.con o (s.q 0 k') else s.q i k') = if i = 0 ∧ k' ∈ dn ++ [k] then fl s.con o (s.q 0 k') else s.q i k'
      by_cases c : i = 0 ∧ k' ∈ dn
      · rw [if_pos c, if_pos (this.2 c)]
      · rw [if_neg c, if_neg (fun d => c (this.1 d))]
  have e2 : ∀ q' : Nat → ByteArray → List Nat, { dropS s o dn with q := q' } = { s with q := q' } := fun _ => rfl
  rw [e2, e1]
  rfl
theorem dropS_all (h : LkC s) {dn : List ByteArray} (ha : ∀ k, s.hd o k ≠ none → k ∈ dn) : { dropS s o dn with hm := updM (dropS s o dn).hm o none, hd := clrH (dropS s o dn).hd o } = goneH s o := by
  have e1 : (dropS s o dn).q = fun i k => if i = 0 then fl s.con o (s.q 0 k) else s.q i k := by
    funext i k
    unfold dropS
    by_cases e : i = 0
    · subst e
      by_cases e2 : k ∈ dn
      · simp [e2]
      · simp only [e2, and_false, if_false, if_true]
        refine (fl_id (fun y hy c => e2 (ha k ?_))).symm
        have := h.ok.h2 k y hy
        rw [c] at this
        rw [this]; simp
    · simp [e]
  show { s with q := (dropS s o dn).q, hm := updM s.hm o none, hd := clrH s.hd o } = goneH s o
  rw [e1]
  rfl
/-- Of which keys it lets go. -/
def keysOf (s : Lk) (o : Int) (k : ByteArray) : Prop := (∃ w, s.wt o = some w ∧ (s.con w).k = k) ∨ s.hd o k ≠ none
theorem goneT_same (h : LkC s) (hk : ¬ keysOf s o k) : SameAt s (goneT s o) k := by
  have n0 : ∀ y, y ∈ s.q 0 k → (s.con y).ow ≠ o := fun y hy c => hk (.inr (by
    have := h.ok.h2 k y hy
    rw [c] at this
    rw [this]; simp))
  have ni : ∀ i y, (i = 1 ∨ i = 2) → y ∈ s.q i k → (s.con y).ow ≠ o := fun i y hi hy c => hk (.inl ⟨y, by
    have := h.ok.w2 i k y hi hy
    rw [c] at this; exact this, (h.ok.ck i k y (lt3 hi) hy).1⟩)
  refine ⟨fun i hi => ?_, fun _ _ _ _ => rfl, rfl⟩
  by_cases e : i = 0
  · subst e
    exact fl_id n0
  · show (if i = 0 then _ else if i = 0 then _ else fl s.con o (s.q i k)) = _
    rw [if_neg e, if_neg e]
    exact fl_id (fun y hy => ni i y (by omega) hy)
theorem goneT_sub {i : Nat} {y : Nat} (h : y ∈ (goneT s o).q i k) : y ∈ s.q i k ∧ (i < 3 → (s.con y).ow ≠ o) := by
  by_cases e : i = 0
  · subst e
    exact ⟨(mem_fl.1 h).1, fun _ => (mem_fl.1 h).2⟩
  · have h : y ∈ (if i = 0 then fl s.con o (s.q 0 k) else if i = 0 then s.q 0 k else fl s.con o (s.q i k)) := h
    rw [if_neg e, if_neg e] at h
    exact ⟨(mem_fl.1 h).1, fun _ => (mem_fl.1 h).2⟩
theorem keysOf_lk {B : Nat} {W : World} {T ml mh mw n : Nat} (t : LkAt B W T ml mh mw n s) (h : LkC s) (hk : keysOf s o k) : s.lk k ≠ none ∧ k.size ≤ 100 := by
  have key : ∀ i y, i < 3 → y ∈ s.q i k → s.lk k ≠ none ∧ k.size ≤ 100 := fun i y hi hy => by
    obtain ⟨K, hK⟩ := t.lk_some hy
    exact ⟨by rw [hK]; simp, (h.ok.ck i k y hi hy).2.1⟩
  rcases hk with ⟨w, hw, rfl⟩ | hk
  · obtain ⟨_, i, hi, hq⟩ := h.ok.w1 o w hw
    exact key i w (lt3 hi) hq
  · obtain ⟨w, e⟩ := Option.ne_none_iff_exists'.1 hk
    exact key 0 w (by decide) (h.ok.h1 o k w e).1
end
end Go.Proofs.Ytgabdlnbencglaa

namespace Go.Proofs.Ytgabdlnbencglaa
open Go.RowKit
noncomputable def goneL (s : Lk) (os : List Int) : Lk := os.foldl goneT s
section
variable {s s' : Lk} {os : List Int} {o : Int} {k : ByteArray}
theorem goneL_nil : goneL s [] = s := rfl
theorem goneL_snoc : goneL s (os ++ [o]) = goneT (goneL s os) o := by unfold goneL; rw [List.foldl_append]; rfl
theorem goneL_all (h : LkC s) : LkC (goneL s os) ∧ (goneL s os).lk = s.lk ∧ (goneL s os).con = s.con ∧ (goneL s os).pas = s.pas ∧ (∀ i k y, y ∈ (goneL s os).q i k → y ∈ s.q i k) ∧ (∀ o, s.wt o = none → (goneL s os).wt o = none) := by
  unfold goneL
  induction os generalizing s with
  | nil => exact ⟨h, rfl, rfl, rfl, fun _ _ _ e => e, fun _ e => e⟩
  | cons a t ih =>
    obtain ⟨h1, h2, h3, h4, h5, h6⟩ := ih (s := goneT s a) h.goneT
    refine ⟨h1, h2, h3, h4, fun i k y hy => (goneT_sub (h5 i k y hy)).1, fun o e => h6 o ?_⟩
    show updM s.wt a none o = none
    by_cases c : o = a
    · rw [c, updM_same]
    · rw [updM_other _ _ c]; exact e
theorem goneL_in (h : LkC s) (ho : o ∈ os) : (goneL s os).wt o = none := by
  obtain ⟨a, b, rfl⟩ := List.append_of_mem ho
  have e : goneL s (a ++ o :: b) = goneL (goneT (goneL s a) o) b := by unfold goneL; rw [List.foldl_append]; rfl
  rw [e]
  exact (goneL_all (goneL_all h).1.goneT).2.2.2.2.2 o (updM_same _ _ _)
theorem Wn.sub {c : Nat} (h : Wn s c) (hs : ∀ i k y, y ∈ s'.q i k → y ∈ s.q i k) : Wn s' c := by
  obtain ⟨L, h1, h2⟩ := h
  exact ⟨L, h1, fun i k w hi hw => h2 i k w hi (hs i k w hw)⟩
/-- Between acts. -/
structure Good (s : Lk) : Prop where
  c : LkC s
  st : ∀ k, Settled k s
theorem PassL.good {s0 : Lk} {ks : List ByteArray} {os : List Int} {c : Nat} (h : PassL s ks os s') (hc : LkC s) (hw : Wn s c) (hn : ks.Nodup) (hg : Good s0) (ho : ∀ k, k ∉ ks → SameAt s0 s k) : Good s' := by
  obtain ⟨h1, h2, _, _, h5⟩ := h.all hc hw hn
  refine ⟨h1, fun k => ?_⟩
  by_cases e : k ∈ ks
  · exact h5 k e
  · exact (hg.st k).of ((ho k e).trans (h2.oth k e))
end
end Go.Proofs.Ytgabdlnbencglaa
