/-
  A TABLE OF LOCKS: what Ask does, as a relation; what it keeps.
-/
import Derived.Test.YtgabdlnbencglaaLkm5
namespace Go.Proofs.Ytgabdlnbencglaa
open Go.RowKit
/-- Who must wait stands in a part of its key's line. -/
noncomputable def waitG (s : Lk) (i : Nat) (w : Nat) (x : Wc) : Lk := { s with q := updQ s.q i x.k (s.q i x.k ++ [w]), con := updC s.con w x, wt := updM s.wt x.ow (some w) }
inductive AskR (s : Lk) (o : Int) (k : ByteArray) (b : Bool) : Int → Lk → Prop
  | neg : o < 0 → AskR s o k b 1 s
  | state (w : Nat) : 0 ≤ o → s.wt o = some w → AskR s o k b 12 s
  | has (h0 : Nat) : 0 ≤ o → s.wt o = none → s.hd o k = some h0 → ((s.con h0).wr = true ∨ b = false) → AskR s o k b 0 s
  | up (K h0 : Nat) : 0 ≤ o → s.wt o = none → s.hd o k = some h0 → (s.con h0).wr = false → b = true → freeB s.con ⟨k, b, o⟩ (s.q 0 k) = true → AskR s o k b 0 (upS (lockS s k K) h0 ⟨k, b, o⟩)
  | upw (K h0 w : Nat) : 0 ≤ o → s.wt o = none → s.hd o k = some h0 → (s.con h0).wr = false → b = true → freeB s.con ⟨k, b, o⟩ (s.q 0 k) = false → (∀ i k', i < 3 → w ∉ s.q i k') → AskR s o k b 10 (waitG (lockS s k K) 1 w ⟨k, b, o⟩)
  | hold (K m w : Nat) : 0 ≤ o → s.wt o = none → s.hd o k = none → s.q 1 k ++ s.q 2 k = [] → freeB s.con ⟨k, b, o⟩ (s.q 0 k) = true → (∀ i k', i < 3 → w ∉ s.q i k') → AskR s o k b 0 (heldS (lockS s k K) m w ⟨k, b, o⟩)
  | wait (K w : Nat) : 0 ≤ o → s.wt o = none → s.hd o k = none → (s.q 1 k ++ s.q 2 k ≠ [] ∨ freeB s.con ⟨k, b, o⟩ (s.q 0 k) = false) → (∀ i k', i < 3 → w ∉ s.q i k') → AskR s o k b 10 (waitG (lockS s k K) 2 w ⟨k, b, o⟩)
section
variable {s : Lk} {w i : Nat} {x : Wc} {k : ByteArray}
theorem waitG_q {j : Nat} {k' : ByteArray} (h : ¬ (j = i ∧ k' = x.k)) : (waitG s i w x).q j k' = s.q j k' := updQ_other _ _ h
theorem heldS_q {m j : Nat} {k' : ByteArray} (h : ¬ (j = 0 ∧ k' = x.k)) : (heldS s m w x).q j k' = s.q j k' := updQ_other _ _ h
theorem freeB_nil {con : Nat → Wc} {x : Wc} : freeB con x [] = true := rfl
theorem LkC.lockS (h : LkC s) (k : ByteArray) (K : Nat) : LkC (lockS s k K) := ⟨⟨h.ok.h1, h.ok.h2, h.ok.ck, h.ok.w1, h.ok.w2, h.ok.r1, h.ok.r2, h.ok.cp⟩, h.qd, h.nd, h.q3⟩
theorem Wn.lockS {c : Nat} (h : Wn s c) (k : ByteArray) (K : Nat) : Wn (lockS s k K) c := h
/-- One that must wait. -/
theorem LkC.wait (h : LkC s) (hi : (i = 1 ∧ s.hd x.ow x.k ≠ none) ∨ (i = 2 ∧ s.hd x.ow x.k = none)) (hw : ∀ i k', i < 3 → w ∉ s.q i k') (ht : s.wt x.ow = none) (hk : x.k.size ≤ 100) (hwf : (Lit.int .i64 x.ow).wf = true) :
    LkC (waitG s i w x) ∧ (∀ j k' y, j < 3 → (y ∈ (waitG s i w x).q j k' ↔ y ∈ s.q j k' ∨ (y = w ∧ j = i ∧ k' = x.k))) := by
  have i3 : i = 1 ∨ i = 2 := hi.imp (·.1) (·.1)
  have mem : ∀ j k' y, j < 3 → (y ∈ (waitG s i w x).q j k' ↔ y ∈ s.q j k' ∨ (y = w ∧ j = i ∧ k' = x.k)) := fun j k' y hj => by
    show y ∈ updQ s.q i x.k (s.q i x.k ++ [w]) j k' ↔ _
    by_cases e : j = i ∧ k' = x.k
    · obtain ⟨rfl, rfl⟩ := e
      rw [updQ_same, List.mem_append, List.mem_singleton]
      simp
    · rw [updQ_other _ _ e]
      exact ⟨.inl, fun c => c.elim id (fun c => absurd c.2 e)⟩
  have cn : ∀ y, y ≠ w → (waitG s i w x).con y = s.con y := fun y e => updC_other _ _ e
  have cw : (waitG s i w x).con w = x := updC_same _ _ _
  have ne : ∀ {j k' y}, j < 3 → y ∈ s.q j k' → y ≠ w := fun {j k' y} hj c e => hw j k' hj (e ▸ c)
  refine ⟨⟨⟨fun o k' y e => ?_, fun k' y c => ?_, fun j k' y hj c => ?_, fun o y e => ?_, fun j k' y hj c => ?_, fun k' y c => ?_, fun k' y c => ?_, fun k' y z c d hyz => ?_⟩, fun a b k1 k2 y ha hb e1 e2 => ?_, fun j k' hj => ?_, fun j k' hj => ?_⟩, mem⟩
  · obtain ⟨e1, e2⟩ := h.ok.h1 o k' y e
    exact ⟨(mem 0 k' y (by decide)).2 (.inl e1), by rw [cn y (ne (by decide) e1)]; exact e2⟩
  · rcases (mem 0 k' y (by decide)).1 c with c | ⟨_, c, _⟩
    · rw [cn y (ne (by decide) c)]; exact h.ok.h2 k' y c
    · omega
  · rcases (mem j k' y hj).1 c with c | ⟨rfl, _, rfl⟩
    · rw [cn y (ne hj c)]; exact h.ok.ck j k' y hj c
    · rw [cw]; exact ⟨rfl, hk, hwf⟩
  · have e : updM s.wt x.ow (some w) o = some y := e
    rcases updM_cases e with ⟨c, d⟩ | ⟨c, d⟩
    · injection d with d
      subst d
      rw [cw]
      exact ⟨c.symm, i, i3, (mem i _ w (lt3 i3)).2 (.inr ⟨rfl, rfl, rfl⟩)⟩
    · obtain ⟨e1, j, hj, e2⟩ := h.ok.w1 o y d
      rw [cn y (ne (lt3 hj) e2)]
      exact ⟨e1, j, hj, (mem j _ y (lt3 hj)).2 (.inl e2)⟩
  · show updM s.wt x.ow (some w) _ = some y
    rcases (mem j k' y (lt3 hj)).1 c with c | ⟨rfl, _, _⟩
    · rw [cn y (ne (lt3 hj) c)]
      have e1 := h.ok.w2 j k' y hj c
      rw [updM_other _ _ (fun e => by rw [e, ht] at e1; cases e1)]
      exact e1
    · rw [cw, updM_same]
  · rcases (mem 1 k' y (by decide)).1 c with c | ⟨rfl, c, rfl⟩
    · rw [cn y (ne (by decide) c)]; exact h.ok.r1 k' y c
    · rw [cw]
      exact (hi.resolve_right (fun q => by omega)).2
  · rcases (mem 2 k' y (by decide)).1 c with c | ⟨rfl, c, rfl⟩
    · rw [cn y (ne (by decide) c)]; exact h.ok.r2 k' y c
    · rw [cw]
      exact (hi.resolve_left (fun q => by omega)).2
  · rcases (mem 0 k' y (by decide)).1 c with c | ⟨_, c, _⟩
    · rcases (mem 0 k' z (by decide)).1 d with d | ⟨_, d, _⟩
      · rw [cn y (ne (by decide) c)]; exact h.ok.cp k' y z c d hyz
      · omega
    · omega
  · rcases (mem a k1 y ha).1 e1 with c1 | ⟨c1, c2, c3⟩ <;> rcases (mem b k2 y hb).1 e2 with d1 | ⟨d1, d2, d3⟩
    · exact h.qd a b k1 k2 y ha hb c1 d1
    · exact absurd (d1 ▸ c1) (hw a k1 ha)
    · exact absurd (c1 ▸ d1) (hw b k2 hb)
    · exact ⟨by omega, by rw [c3, d3]⟩
  · show (updQ s.q i x.k (s.q i x.k ++ [w]) j k').Nodup
    by_cases e : j = i ∧ k' = x.k
    · obtain ⟨rfl, rfl⟩ := e
      rw [updQ_same, List.nodup_append]
      exact ⟨h.nd j _ hj, by simp, fun a ha b hb e => hw j x.k hj (by rw [List.mem_singleton.1 hb] at e; rw [← e]; exact ha)⟩
    · rw [updQ_other _ _ e]; exact h.nd j k' hj
  · exact (updQ_other _ _ (fun c => by omega)).trans (h.q3 j k' hj)
theorem Wn.wait {c : Nat} (h : Wn s c) (hm : ∀ j k' y, j < 3 → (y ∈ (waitG s i w x).q j k' ↔ y ∈ s.q j k' ∨ (y = w ∧ j = i ∧ k' = x.k))) : Wn (waitG s i w x) (c + 1) := by
  obtain ⟨L, hl, hL⟩ := h
  refine ⟨w :: L, by rw [List.length_cons]; omega, fun j k' y hj hy => ?_⟩
  rcases (hm j k' y (lt3 hj)).1 hy with c | ⟨c, _⟩
  · exact List.mem_cons_of_mem _ (hL j k' y hj c)
  · rw [c]; exact List.mem_cons_self ..
/-- Who clashes with what is read, clashes with what is written. -/
theorem clash_up {x y z : Wc} (h : clash x y = true) (ho : z.ow = y.ow) (hw : z.wr = true) : clash x z = true := by
  unfold clash at h ⊢
  rw [ho, hw]
  simp only [Bool.and_eq_true] at h
  simp [h.1]
theorem freeB_up {con con' : Nat → Wc} {x : Wc} {q : List Nat} (h : freeB con x q = false) (hc : ∀ y, y ∈ q → clash x (con y) = true → clash x (con' y) = true) : freeB con' x q = false := by
  unfold freeB at h ⊢
  rw [Bool.not_eq_false', List.any_eq_true] at h ⊢
  obtain ⟨z, h1, h2⟩ := h
  exact ⟨z, h1, hc z (endsL_mem h1) h2⟩
/-- What Ask keeps. -/
theorem AskR.good {s' : Lk} {o : Int} {b : Bool} {e : Int} {c : Nat} (h : AskR s o k b e s') (hg : Good s) (hw : Wn s c) (hk : k.size ≤ 100) (hwf : (Lit.int .i64 o).wf = true) : Good s' ∧ Wn s' (c + 1) ∧ s'.pas = s.pas := by
  have w1 : Wn s (c + 1) := by
    obtain ⟨L, h1, h2⟩ := hw
    exact ⟨L, by omega, h2⟩
  cases h with
  | neg h => exact ⟨hg, w1, rfl⟩
  | state w h h2 => exact ⟨hg, w1, rfl⟩
  | has h0 h1 h2 h3 h4 => exact ⟨hg, w1, rfl⟩
  | up K h0 h1 h2 h3 h4 h5 h6 =>
    refine ⟨⟨(hg.c.lockS k K).up (x := ⟨k, b, o⟩) h3 h6, fun k' => ?_⟩, w1, rfl⟩
    obtain ⟨m0, mo⟩ := hg.c.ok.h1 o k h0 h3
    by_cases e : k' = k
    · subst e
      refine ⟨fun _ c => ?_, fun z hz => ?_⟩
      · have c : s.q 0 k' = [] := c
        rw [c] at m0; cases m0
      have hz : (s.q 1 k' ++ s.q 2 k').head? = some z := hz
      have hzn : z ≠ h0 := fun c => by
        rcases List.mem_append.1 (List.mem_of_head? hz) with q | q
        · have := (hg.c.qd 1 0 k' k' z (by decide) (by decide) q (c ▸ m0)).1; omega
        · have := (hg.c.qd 2 0 k' k' z (by decide) (by decide) q (c ▸ m0)).1; omega
      have e1 : (upS (Go.Proofs.Ytgabdlnbencglaa.lockS s k' K) h0 ⟨k', b, o⟩).con z = s.con z := updC_other _ _ hzn
      rw [e1]
      refine freeB_up ((hg.st k').f z hz) (fun y _ hy2 => ?_)
      by_cases c : y = h0
      · subst c
        exact clash_up hy2 (by show (updC s.con y _ y).ow = _; rw [updC_same]; rfl) (by show (updC s.con y _ y).wr = true; rw [updC_same]; exact h5)
      · rw [show (upS (Go.Proofs.Ytgabdlnbencglaa.lockS s k' K) h0 ⟨k', b, o⟩).con y = s.con y from updC_other _ _ c]; exact hy2
    · refine (hg.st k').of ⟨fun _ _ => rfl, fun j y hj hy => updC_other _ _ (fun c => e ?_), updM_other _ _ e⟩
      exact (hg.c.qd j 0 k' k y hj (by decide) hy (c ▸ m0)).2
  | upw K h0 w h1 h2 h3 h4 h5 h6 h7 =>
    obtain ⟨m0, mo⟩ := hg.c.ok.h1 o k h0 h3
    obtain ⟨g1, mem⟩ := (hg.c.lockS k K).wait (i := 1) (w := w) (x := ⟨k, b, o⟩) (.inl ⟨rfl, by show s.hd o k ≠ none; rw [h3]; simp⟩) h7 h2 hk hwf
    have cn : ∀ {j k' y}, j < 3 → y ∈ s.q j k' → (waitG (Go.Proofs.Ytgabdlnbencglaa.lockS s k K) 1 w ⟨k, b, o⟩).con y = s.con y := fun {j k' y} hj c => updC_other _ _ (fun e => h7 j k' hj (e ▸ c))
    refine ⟨⟨g1, fun k' => ?_⟩, Wn.wait (s := Go.Proofs.Ytgabdlnbencglaa.lockS s k K) hw mem, rfl⟩
    by_cases e : k' = k
    · subst e
      have q0 : (waitG (Go.Proofs.Ytgabdlnbencglaa.lockS s k' K) 1 w ⟨k', b, o⟩).q 0 k' = s.q 0 k' := waitG_q (fun c => absurd c.1 (by decide))
      have q1 : (waitG (Go.Proofs.Ytgabdlnbencglaa.lockS s k' K) 1 w ⟨k', b, o⟩).q 1 k' = s.q 1 k' ++ [w] := updQ_same _ _ _ _
      refine ⟨fun _ c => ?_, fun z hz => ?_⟩
      · rw [q0] at c
        rw [c] at m0; cases m0
      · rw [q0, freeB_congr (con := s.con) (fun y hy => cn (by decide) hy)]
        rw [q1] at hz
        cases hq : s.q 1 k' with
        | nil =>
          rw [hq] at hz
          have hz : w = z := by simpa using hz
          subst hz
          rw [show (waitG (Go.Proofs.Ytgabdlnbencglaa.lockS s k' K) 1 w ⟨k', b, o⟩).con w = ⟨k', b, o⟩ from updC_same _ _ _]
          exact h6
        | cons a t =>
          rw [hq] at hz
          have hz : a = z := by simpa using hz
          subst hz
          rw [cn (j := 1) (k' := k') (by decide) (by rw [hq]; exact List.mem_cons_self ..)]
          exact (hg.st k').f a (by rw [hq]; rfl)
    · exact (hg.st k').of ⟨fun j hj => waitG_q (fun c => e c.2), fun j y hj hy => cn hj hy, updM_other _ _ e⟩
  | hold K m w h1 h2 h3 h4 h5 h6 =>
    obtain ⟨g1, mem⟩ := (hg.c.lockS k K).held (m := m) (w := w) (x := ⟨k, b, o⟩) h6 h3 h2 h5 hk hwf
    have cn : ∀ {j k' y}, j < 3 → y ∈ s.q j k' → (heldS (Go.Proofs.Ytgabdlnbencglaa.lockS s k K) m w ⟨k, b, o⟩).con y = s.con y := fun {j k' y} hj c => updC_other _ _ (fun e => h6 j k' hj (e ▸ c))
    refine ⟨⟨g1, fun k' => ?_⟩, ?_, rfl⟩
    · by_cases e : k' = k
      · subst e
        have e12 := List.append_eq_nil_iff.1 h4
        have q0 : (heldS (Go.Proofs.Ytgabdlnbencglaa.lockS s k' K) m w ⟨k', b, o⟩).q 0 k' = s.q 0 k' ++ [w] := updQ_same _ _ _ _
        have q1 : (heldS (Go.Proofs.Ytgabdlnbencglaa.lockS s k' K) m w ⟨k', b, o⟩).q 1 k' = [] := (heldS_q (fun c => absurd c.1 (by decide))).trans e12.1
        have q2 : (heldS (Go.Proofs.Ytgabdlnbencglaa.lockS s k' K) m w ⟨k', b, o⟩).q 2 k' = [] := (heldS_q (fun c => absurd c.1 (by decide))).trans e12.2
        refine ⟨fun _ c => by rw [q0] at c; simp at c, fun z hz => ?_⟩
        rw [q1, q2] at hz; cases hz
      · exact (hg.st k').of ⟨fun j hj => updQ_other _ _ (fun c => e c.2), fun j y hj hy => cn hj hy, updM_other _ _ e⟩
    · obtain ⟨L, hl, hL⟩ := w1
      refine ⟨L, hl, fun j k' y hj hy => ?_⟩
      rcases (mem j k' y (lt3 hj)).1 hy with c | ⟨_, c, _⟩
      · exact hL j k' y hj c
      · omega
  | wait K w h1 h2 h3 h4 h5 =>
    obtain ⟨g1, mem⟩ := (hg.c.lockS k K).wait (i := 2) (w := w) (x := ⟨k, b, o⟩) (.inr ⟨rfl, h3⟩) h5 h2 hk hwf
    have cn : ∀ {j k' y}, j < 3 → y ∈ s.q j k' → (waitG (Go.Proofs.Ytgabdlnbencglaa.lockS s k K) 2 w ⟨k, b, o⟩).con y = s.con y := fun {j k' y} hj c => updC_other _ _ (fun e => h5 j k' hj (e ▸ c))
    refine ⟨⟨g1, fun k' => ?_⟩, Wn.wait (s := Go.Proofs.Ytgabdlnbencglaa.lockS s k K) hw mem, rfl⟩
    by_cases e : k' = k
    · subst e
      have q0 : (waitG (Go.Proofs.Ytgabdlnbencglaa.lockS s k' K) 2 w ⟨k', b, o⟩).q 0 k' = s.q 0 k' := waitG_q (fun c => absurd c.1 (by decide))
      have q1 : (waitG (Go.Proofs.Ytgabdlnbencglaa.lockS s k' K) 2 w ⟨k', b, o⟩).q 1 k' = s.q 1 k' := waitG_q (fun c => absurd c.1 (by decide))
      have q2 : (waitG (Go.Proofs.Ytgabdlnbencglaa.lockS s k' K) 2 w ⟨k', b, o⟩).q 2 k' = s.q 2 k' ++ [w] := updQ_same _ _ _ _
      have n0 : s.q 0 k' ≠ [] := fun c => by
        rcases h4 with d | d
        · cases hh : (s.q 1 k' ++ s.q 2 k').head? with
          | none => exact d (List.head?_eq_none_iff.1 hh)
          | some z =>
            have := (hg.st k').f z hh
            rw [c, freeB_nil] at this; cases this
        · rw [c, freeB_nil] at d; cases d
      refine ⟨fun _ => by rw [q0]; exact n0, fun z hz => ?_⟩
      rw [q0, freeB_congr (con := s.con) (fun y hy => cn (by decide) hy)]
      rw [q1, q2, ← List.append_assoc] at hz
      cases hq : s.q 1 k' ++ s.q 2 k' with
      | nil =>
        rw [hq] at hz
        have hz : w = z := by simpa using hz
        subst hz
        rw [show (waitG (Go.Proofs.Ytgabdlnbencglaa.lockS s k' K) 2 w ⟨k', b, o⟩).con w = ⟨k', b, o⟩ from updC_same _ _ _]
        exact h4.resolve_left (fun d => d hq)
      | cons a t =>
        rw [hq] at hz
        have hz : a = z := by simpa using hz
        subst hz
        have ha : a ∈ s.q 1 k' ++ s.q 2 k' := by rw [hq]; exact List.mem_cons_self ..
        have e1 : (waitG (Go.Proofs.Ytgabdlnbencglaa.lockS s k' K) 2 w ⟨k', b, o⟩).con a = s.con a := by
          rcases List.mem_append.1 ha with q | q
          · exact cn (j := 1) (by decide) q
          · exact cn (j := 2) (by decide) q
        rw [e1]
        exact (hg.st k').f a (by rw [hq]; rfl)
    · exact (hg.st k').of ⟨fun j hj => updQ_other _ _ (fun c => e c.2), fun j y hj hy => cn hj hy, updM_other _ _ e⟩
end
end Go.Proofs.Ytgabdlnbencglaa
