/-
  A TABLE OF LOCKS: what pass does, step by step; what it leaves as it was.
-/
import Derived.Test.YtgabdlnbencglaaLkm2
namespace Go.Proofs.Ytgabdlnbencglaa
open Go.RowKit
structure LkC (s : Lk) : Prop where
  ok : LkOk s
  qd : Qd s
  nd : ∀ i k, i < 3 → (s.q i k).Nodup
  q3 : ∀ i k, 3 ≤ i → s.q i k = []
theorem LkAt.qdS {B : Nat} {W : World} {T ml mh mw n : Nat} {s : Lk} (h : LkAt B W T ml mh mw n s) : Qd s := h.qd
theorem LkAt.ndS {B : Nat} {W : World} {T ml mh mw n : Nat} {s : Lk} (h : LkAt B W T ml mh mw n s) : ∀ i k, i < 3 → (s.q i k).Nodup := fun i k hi => by
  cases e : s.lk k with
  | none => rw [h.qn k e i]; exact List.nodup_nil
  | some K => exact (h.qa k K e i hi).nd
/-- What is told of a key stays. -/
structure SameAt (s s' : Lk) (k : ByteArray) : Prop where
  q : ∀ i, i < 3 → s'.q i k = s.q i k
  c : ∀ i y, i < 3 → y ∈ s.q i k → s'.con y = s.con y
  l : s'.lk k = s.lk k
theorem SameAt.refl (s : Lk) (k : ByteArray) : SameAt s s k := ⟨fun _ _ => rfl, fun _ _ _ _ => rfl, rfl⟩
theorem SameAt.trans {s s1 s2 : Lk} {k : ByteArray} (h : SameAt s s1 k) (g : SameAt s1 s2 k) : SameAt s s2 k :=
  ⟨fun i hi => (g.q i hi).trans (h.q i hi), fun i y hi hy => (g.c i y hi (by rw [h.q i hi]; exact hy)).trans (h.c i y hi hy), g.l.trans h.l⟩
/-- The first waiter isn't free. -/
def Stuck (k : ByteArray) (s : Lk) : Prop := ∀ w, (s.q 1 k ++ s.q 2 k).head? = some w → freeB s.con (s.con w) (s.q 0 k) = false
/-- Between acts: a lock is held, its first waiter isn't free. -/
structure Settled (k : ByteArray) (s : Lk) : Prop where
  l : s.lk k ≠ none → s.q 0 k ≠ []
  f : Stuck k s
theorem freeB_congr {con con' : Nat → Wc} {x : Wc} {q : List Nat} (h : ∀ y, y ∈ q → con' y = con y) : freeB con' x q = freeB con x q := by
  unfold freeB
  congr 1
  have : ∀ l : List Nat, (∀ y, y ∈ l → y ∈ q) → (l.any fun z => clash x (con' z)) = l.any fun z => clash x (con z) := fun l => by
    induction l with
    | nil => intro _; rfl
    | cons a t ih =>
      intro hl
      rw [List.any_cons, List.any_cons, ih (fun y hy => hl y (List.mem_cons_of_mem _ hy)), h a (hl a (List.mem_cons_self ..))]
  exact this _ (fun y hy => endsL_mem hy)
theorem Settled.of {s s' : Lk} {k : ByteArray} (h : Settled k s) (g : SameAt s s' k) : Settled k s' := by
  refine ⟨fun e => ?_, fun w e => ?_⟩
  · rw [g.q 0 (by decide)]
    exact h.l (fun c => e (by rw [g.l, c]))
  · rw [g.q 1 (by decide), g.q 2 (by decide)] at e
    have hm : w ∈ s.q 1 k ++ s.q 2 k := List.mem_of_head? e
    have hc : s'.con w = s.con w := by
      rcases List.mem_append.1 hm with c | c
      · exact g.c 1 w (by decide) c
      · exact g.c 2 w (by decide) c
    rw [g.q 0 (by decide), hc, freeB_congr (fun y hy => g.c 0 y (by decide) hy)]
    exact h.f w e
/-- One that waits comes to hold its key. -/
inductive Step (k : ByteArray) (s : Lk) (w : Nat) : Lk → Prop
  | up (r : List Nat) (h0 : Nat) : s.q 1 k = w :: r → s.hd (s.con w).ow k = some h0 → freeB s.con (s.con w) (s.q 0 k) = true → Step k s w (upS (leftG s 1 k r (s.con w).ow) h0 (s.con w))
  | new (r : List Nat) (m : Nat) : s.q 1 k = [] → s.q 2 k = w :: r → freeB s.con (s.con w) (s.q 0 k) = true → Step k s w (heldS (leftG s 2 k r (s.con w).ow) m w (s.con w))
inductive PassK (k : ByteArray) (s : Lk) : List Int → Lk → Prop
  | nil : PassK k s [] s
  | snoc {os : List Int} {s1 s2 : Lk} {w : Nat} : PassK k s os s1 → Step k s1 w s2 → PassK k s (os ++ [(s1.con w).ow]) s2
noncomputable def finS (s : Lk) (k : ByteArray) : Lk := { s with lk := if s.q 0 k = [] then updM s.lk k none else s.lk }
inductive PassL (s : Lk) : List ByteArray → List Int → Lk → Prop
  | nil : PassL s [] [] s
  | snoc {ks : List ByteArray} {os o2 : List Int} {k : ByteArray} {s1 s2 : Lk} : PassL s ks os s1 → PassK k s1 o2 s2 → Stuck k s2 → PassL s (ks ++ [k]) (os ++ o2) (finS s2 k)
/-- At most so many wait. -/
def Wn (s : Lk) (c : Nat) : Prop := ∃ L : List Nat, L.length ≤ c ∧ ∀ i k w, (i = 1 ∨ i = 2) → w ∈ s.q i k → w ∈ L
/-- What passing leaves: of other keys all; nobody waits that didn't. -/
structure Passed (P : ByteArray → Prop) (s s' : Lk) : Prop where
  oth : ∀ k, ¬ P k → SameAt s s' k
  sub : ∀ i k y, (i = 1 ∨ i = 2) → y ∈ s'.q i k → y ∈ s.q i k
  ow : ∀ y, (s'.con y).ow = (s.con y).ow
  hs : ∀ k y, y ∈ s'.q 0 k → ∃ i, i < 3 ∧ y ∈ s.q i k
  wt : ∀ o, s.wt o = none → s'.wt o = none
  lk : ∀ k, s.lk k = none → s'.lk k = none
theorem Passed.refl (P : ByteArray → Prop) (s : Lk) : Passed P s s := ⟨fun k _ => SameAt.refl s k, fun _ _ _ _ h => h, fun _ => rfl, fun _ _ h => ⟨0, by decide, h⟩, fun _ h => h, fun _ h => h⟩
theorem Passed.trans {P P' : ByteArray → Prop} {s s1 s2 : Lk} (h : Passed P s s1) (g : Passed P' s1 s2) : Passed (fun k => P k ∨ P' k) s s2 :=
  ⟨fun k hk => (h.oth k (fun c => hk (.inl c))).trans (g.oth k (fun c => hk (.inr c))), fun i k y hi hy => h.sub i k y hi (g.sub i k y hi hy), fun y => (g.ow y).trans (h.ow y), fun k y hy => by
    obtain ⟨i, hi, e⟩ := g.hs k y hy
    by_cases e0 : i = 0
    · subst e0; exact h.hs k y e
    · exact ⟨i, hi, h.sub i k y (by omega) e⟩, fun o e => g.wt o (h.wt o e), fun k e => g.lk k (h.lk k e)⟩
theorem Passed.mono {P P' : ByteArray → Prop} {s s' : Lk} (h : Passed P s s') (hp : ∀ k, P k → P' k) : Passed P' s s' :=
  { h with oth := fun k hk => h.oth k (fun c => hk (hp k c)) }
theorem nd_cons {q : List Nat} {w : Nat} {r : List Nat} (hn : q.Nodup) (e : q = w :: r) : ∀ y, y ∈ r ↔ y ∈ q ∧ y ≠ w := fun y => by
  subst e
  have h1 := List.nodup_cons.1 hn
  constructor
  · intro h; exact ⟨List.mem_cons_of_mem _ h, fun c => h1.1 (c ▸ h)⟩
  · intro h; exact (List.mem_cons.1 h.1).resolve_left h.2
theorem LkC.leave {s : Lk} (h : LkC s) {i : Nat} {k : ByteArray} {w : Nat} {q : List Nat} (hi : i = 1 ∨ i = 2) (hw : w ∈ s.q i k) (hm : ∀ y, y ∈ q ↔ y ∈ s.q i k ∧ y ≠ w) (hn : q.Nodup) :
    LkC (leftG s i k q (s.con w).ow) ∧ (∀ j k' y, j < 3 → (y ∈ (leftG s i k q (s.con w).ow).q j k' ↔ y ∈ s.q j k' ∧ y ≠ w)) := by
  obtain ⟨h1, mem⟩ := h.ok.leave h.qd hi hw hm
  refine ⟨⟨h1, fun a b k1 k2 x ha hb e1 e2 => h.qd a b k1 k2 x ha hb ((mem a k1 x ha).1 e1).1 ((mem b k2 x hb).1 e2).1, fun j k' hj => ?_, fun j k' hj => ?_⟩, mem⟩
  show (updQ s.q i k q j k').Nodup
  by_cases e : j = i ∧ k' = k
  · obtain ⟨rfl, rfl⟩ := e
    rw [updQ_same]; exact hn
  · rw [updQ_other _ _ e]; exact h.nd j k' hj
  · exact (updQ_other _ _ (fun c => by omega)).trans (h.q3 j k' hj)
theorem LkC.held {s : Lk} (h : LkC s) {m w : Nat} {x : Wc} (hw : ∀ i k', i < 3 → w ∉ s.q i k') (hh : s.hd x.ow x.k = Option.none) (ht : s.wt x.ow = Option.none) (hf : freeB s.con x (s.q 0 x.k) = true) (hk : x.k.size ≤ 100) (hwf : (Lit.int .i64 x.ow).wf = true) :
    LkC (heldS s m w x) ∧ (∀ j k' y, j < 3 → (y ∈ (heldS s m w x).q j k' ↔ y ∈ s.q j k' ∨ (y = w ∧ j = 0 ∧ k' = x.k))) := by
  obtain ⟨h1, mem⟩ := h.ok.held (m := m) (h.nd 0 x.k (by decide)) hw hh ht hf hk hwf
  refine ⟨⟨h1, fun a b k1 k2 y ha hb e1 e2 => ?_, fun j k' hj => ?_, fun j k' hj => ?_⟩, mem⟩
  · rcases (mem a k1 y ha).1 e1 with c1 | ⟨c1, c2, c3⟩ <;> rcases (mem b k2 y hb).1 e2 with d1 | ⟨d1, d2, d3⟩
    · exact h.qd a b k1 k2 y ha hb c1 d1
    · exact absurd (d1 ▸ c1) (hw a k1 ha)
    · exact absurd (c1 ▸ d1) (hw b k2 hb)
    · exact ⟨by omega, by rw [c3, d3]⟩
  · show (updQ s.q 0 x.k (s.q 0 x.k ++ [w]) j k').Nodup
    by_cases e : j = 0 ∧ k' = x.k
    · obtain ⟨rfl, rfl⟩ := e
      rw [updQ_same, List.nodup_append]
      exact ⟨h.nd 0 _ (by decide), by simp, fun a ha b hb e => hw 0 x.k (by decide) (by rw [List.mem_singleton.1 hb] at e; rw [← e]; exact ha)⟩
    · rw [updQ_other _ _ e]; exact h.nd j k' hj
  · exact (updQ_other _ _ (fun c => by omega)).trans (h.q3 j k' hj)
theorem LkC.up {s : Lk} (h : LkC s) {h0 : Nat} {x : Wc} (hh : s.hd x.ow x.k = some h0) (hf : freeB s.con x (s.q 0 x.k) = true) : LkC (upS s h0 x) :=
  ⟨h.ok.up (h.nd 0 _ (by decide)) hh hf h.qd, h.qd, h.nd, h.q3⟩
theorem leftG_q {s : Lk} {i : Nat} {k : ByteArray} {q : List Nat} {o : Int} {j : Nat} {k' : ByteArray} (h : ¬ (j = i ∧ k' = k)) : (leftG s i k q o).q j k' = s.q j k' := updQ_other _ _ h
theorem head_of {a b : List Nat} {w : Nat} (h : (a ++ b).head? = some w) : (∃ r, a = w :: r) ∨ (a = [] ∧ ∃ r, b = w :: r) := by
  cases a with
  | cons z r => left; simp at h; exact ⟨r, by rw [h]⟩
  | nil =>
    right
    refine ⟨rfl, ?_⟩
    cases b with
    | nil => simp at h
    | cons z r => simp at h; exact ⟨r, by rw [h]⟩
/-- A step. -/
theorem Step.all {k : ByteArray} {s s' : Lk} {w : Nat} (h : LkC s) (hs : Step k s w s') :
    LkC s' ∧ Passed (· = k) s s' ∧ (∃ i, (i = 1 ∨ i = 2) ∧ w ∈ s.q i k) ∧ (∀ i k', (i = 1 ∨ i = 2) → w ∉ s'.q i k') := by
  cases hs with
  | up r h0 e1 e2 e3 =>
    have hw : w ∈ s.q 1 k := by rw [e1]; exact List.mem_cons_self ..
    obtain ⟨g1, mem⟩ := h.leave (i := 1) (.inl rfl) hw (nd_cons (h.nd 1 k (by decide)) e1) (by have := h.nd 1 k (by decide); rw [e1] at this; exact (List.nodup_cons.1 this).2)
    have ck := (h.ok.ck 1 k w (by decide) hw).1
    have q0 : (leftG s 1 k r (s.con w).ow).q 0 k = s.q 0 k := leftG_q (fun c => by cases c.1)
    have m0 := h.ok.h1 _ _ _ e2
    refine ⟨g1.up (h0 := h0) (by rw [ck]; exact e2) (by rw [ck, q0]; exact e3), ⟨fun k' hk => ?_, fun i k' y hi hy => ((mem i k' y (lt3 hi)).1 hy).1, fun y => ?_, fun k' y hy => ⟨0, by decide, ((mem 0 k' y (by decide)).1 hy).1⟩, fun o e => ?_, fun k' e => e⟩, ⟨1, .inl rfl, hw⟩, fun i k' hi hy => ((mem i k' w (lt3 hi)).1 hy).2 rfl⟩
    · refine ⟨fun i hi => leftG_q (o := (s.con w).ow) (fun c => hk c.2), fun i y hi hy => updC_other _ _ (fun c => hk ?_), rfl⟩
      exact (h.qd i 0 k' k y hi (by decide) hy (c ▸ m0.1)).2
    · show (updC s.con h0 _ y).ow = _
      by_cases c : y = h0
      · rw [c, updC_same]; rfl
      · rw [updC_other _ _ c]
    · show updM s.wt (s.con w).ow none o = none
      by_cases c : o = (s.con w).ow
      · rw [c, updM_same]
      · rw [updM_other _ _ c]; exact e
  | new r m e1 e2 e3 =>
    have hw : w ∈ s.q 2 k := by rw [e2]; exact List.mem_cons_self ..
    obtain ⟨g1, mem⟩ := h.leave (i := 2) (.inr rfl) hw (nd_cons (h.nd 2 k (by decide)) e2) (by have := h.nd 2 k (by decide); rw [e2] at this; exact (List.nodup_cons.1 this).2)
    obtain ⟨ck, ks, wf⟩ := h.ok.ck 2 k w (by decide) hw
    have q0 : (leftG s 2 k r (s.con w).ow).q 0 k = s.q 0 k := leftG_q (fun c => by cases c.1)
    obtain ⟨g2, mem2⟩ := g1.held (m := m) (w := w) (x := s.con w) (fun i k' hi c => ((mem i k' w hi).1 c).2 rfl) (by rw [ck]; exact h.ok.r2 k w hw) (updM_same _ _ _) (by rw [ck, q0]; exact e3) (by rw [ck]; exact ks) wf
    refine ⟨g2, ⟨fun k' hk => ?_, fun i k' y hi hy => ?_, fun y => ?_, fun k' y hy => ?_, fun o e => ?_, fun k' e => e⟩, ⟨2, .inr rfl, hw⟩, fun i k' hi hy => ?_⟩
    · refine ⟨fun i hi => ?_, fun i y hi hy => updC_other _ _ (fun c => hk ?_), rfl⟩
      · show updQ (leftG s 2 k r (s.con w).ow).q 0 (s.con w).k _ i k' = _
        rw [updQ_other _ _ (fun c => hk (by rw [c.2, ck]))]
        exact leftG_q (o := (s.con w).ow) (fun c => hk c.2)
      · exact (h.qd i 2 k' k y hi (by decide) hy (c ▸ hw)).2
    · rcases (mem2 i k' y (lt3 hi)).1 hy with c | ⟨_, c, _⟩
      · exact ((mem i k' y (lt3 hi)).1 c).1
      · omega
    · show (updC s.con w (s.con w) y).ow = _
      by_cases c : y = w
      · rw [c, updC_same]
      · rw [updC_other _ _ c]
    · rcases (mem2 0 k' y (by decide)).1 hy with c | ⟨c, _, c2⟩
      · exact ⟨0, by decide, ((mem 0 k' y (by decide)).1 c).1⟩
      · rw [c2, ck, c]; exact ⟨2, by decide, hw⟩
    · show updM s.wt (s.con w).ow none o = none
      by_cases c : o = (s.con w).ow
      · rw [c, updM_same]
      · rw [updM_other _ _ c]; exact e
    · rcases (mem2 i k' w (lt3 hi)).1 hy with c | ⟨_, c, _⟩
      · exact ((mem i k' w (lt3 hi)).1 c).2 rfl
      · omega
theorem Wn.step {k : ByteArray} {s s' : Lk} {w c : Nat} (hc : Wn s c) (h : LkC s) (hs : Step k s w s') : 1 ≤ c ∧ Wn s' (c - 1) := by
  obtain ⟨L, hl, hL⟩ := hc
  obtain ⟨_, p, ⟨i, hi, hw⟩, hn⟩ := hs.all h
  have hwL := hL i k w hi hw
  have hle := List.length_erase_of_mem hwL
  have hp := List.length_pos_of_mem hwL
  refine ⟨by omega, L.erase w, by omega, fun j k' y hj hy => (List.mem_erase_of_ne (fun e => by rw [e] at hy; exact hn j k' hj hy)).2 (hL j k' y hj (p.sub j k' y hj hy))⟩
theorem PassK.all {k : ByteArray} {s s' : Lk} {os : List Int} {c : Nat} (h : LkC s) (hc : Wn s c) (hs : PassK k s os s') : LkC s' ∧ Passed (· = k) s s' ∧ os.length ≤ c ∧ Wn s' (c - os.length) := by
  induction hs with
  | nil => exact ⟨h, Passed.refl _ _, Nat.zero_le _, hc⟩
  | snoc _ st ih =>
    obtain ⟨g1, g2, g3, g4⟩ := ih
    obtain ⟨f1, f2, _, _⟩ := st.all g1
    obtain ⟨f3, f4⟩ := g4.step g1 st
    refine ⟨f1, (g2.trans f2).mono (fun _ c => c.elim id id), ?_, ?_⟩
    · rw [List.length_append, List.length_singleton]; omega
    · rw [List.length_append, List.length_singleton, ← Nat.sub_sub]; exact f4
theorem finS_all {s : Lk} (h : LkC s) (k : ByteArray) (hs : Stuck k s) : LkC (finS s k) ∧ Passed (· = k) s (finS s k) ∧ Settled k (finS s k) := by
  refine ⟨⟨⟨h.ok.h1, h.ok.h2, h.ok.ck, h.ok.w1, h.ok.w2, h.ok.r1, h.ok.r2, h.ok.cp⟩, h.qd, h.nd, h.q3⟩, ⟨fun k' hk => ⟨fun _ _ => rfl, fun _ _ _ _ => rfl, ?_⟩, fun _ _ _ _ e => e, fun _ => rfl, fun _ _ e => ⟨0, by decide, e⟩, fun _ e => e, fun k' e => ?_⟩, ⟨fun e => ?_, hs⟩⟩
  · show (if s.q 0 k = [] then updM s.lk k none else s.lk) k' = _
    split
    · exact updM_other _ _ hk
    · rfl
  · show (if s.q 0 k = [] then updM s.lk k none else s.lk) k' = _
    split
    · by_cases c : k' = k
      · rw [c, updM_same]
      · rw [updM_other _ _ c]; exact e
    · exact e
  · intro e0
    have e0 : s.q 0 k = [] := e0
    apply e
    show (if s.q 0 k = [] then updM s.lk k none else s.lk) k = _
    rw [if_pos e0, updM_same]
theorem PassL.all {s s' : Lk} {ks : List ByteArray} {os : List Int} {c : Nat} (h : LkC s) (hc : Wn s c) (hs : PassL s ks os s') (hn : ks.Nodup) : LkC s' ∧ Passed (· ∈ ks) s s' ∧ os.length ≤ c ∧ Wn s' (c - os.length) ∧ ∀ k, k ∈ ks → Settled k s' := by
  induction hs with
  | nil => exact ⟨h, Passed.refl _ _, Nat.zero_le _, hc, fun _ e => by cases e⟩
  | snoc _ pk st ih =>
    rename_i ks os o2 k s1 s2 _
    rw [List.nodup_append] at hn
    obtain ⟨g1, g2, g3, g4, g5⟩ := ih hn.1
    obtain ⟨f1, f2, f3, f4⟩ := pk.all g1 g4
    obtain ⟨e1, e2, e3⟩ := finS_all f1 k st
    have p2 : Passed (· = k) s1 (finS s2 k) := (f2.trans e2).mono (fun _ c => c.elim id id)
    refine ⟨e1, (g2.trans p2).mono (fun x c => List.mem_append.2 (c.imp id (fun c => List.mem_singleton.2 c))), ?_, ?_, fun x hx => ?_⟩
    · rw [List.length_append]; omega
    · rw [List.length_append, ← Nat.sub_sub]; exact f4
    · by_cases c : x = k
      · rw [c]; exact e3
      · rcases List.mem_append.1 hx with q | q
        · exact (g5 x q).of (p2.oth x c)
        · exact absurd (List.mem_singleton.1 q) c
end Go.Proofs.Ytgabdlnbencglaa
