/-
  NO TWO HOLD WHAT DOESN'T GO TOGETHER; who waits, waits for one that holds: pure.
-/
import Derived.Test.YtgabdlnbencglaaLkQuitsP
import Derived.Test.YtgabdlnbencglaaLkWith
namespace Go.Proofs.Ytgabdlnbencglaa
open Go.RowKit
/-- All that hold and wait are among some. -/
def Dm (s : Lk) (os : List Int) : Prop := ∀ i k w, i < 3 → w ∈ s.q i k → (s.con w).ow ∈ os
section
variable {s s' : Lk} {os : List Int} {o : Int} {k : ByteArray}
theorem putS_mem {l : List Int} {n x : Int} : x ∈ putS l n ↔ x = n ∨ x ∈ l := by
  unfold putS
  rw [List.mem_append, List.mem_cons, List.mem_filter, List.mem_filter, decide_eq_true_iff, decide_eq_true_iff]
  constructor
  · rintro (h | h | h)
    · exact .inr h.1
    · exact .inl h
    · exact .inr h.1
  · rintro (h | h)
    · exact .inr (.inl h)
    · rcases Int.lt_trichotomy x n with c | c | c
      · exact .inl ⟨h, c⟩
      · exact .inr (.inl c)
      · exact .inr (.inr ⟨h, c⟩)
theorem putS_up {l : List Int} (h : l.Pairwise (· < ·)) (n : Int) : (putS l n).Pairwise (· < ·) := by
  unfold putS
  rw [List.pairwise_append, List.pairwise_cons]
  refine ⟨h.sublist List.filter_sublist, ⟨fun a ha => ?_, h.sublist List.filter_sublist⟩, fun a ha b hb => ?_⟩
  · rw [List.mem_filter, decide_eq_true_iff] at ha; exact ha.2
  · rw [List.mem_filter, decide_eq_true_iff] at ha
    rcases List.mem_cons.1 hb with e | e
    · rw [e]; exact ha.2
    · rw [List.mem_filter, decide_eq_true_iff] at e
      omega
theorem putS_len (l : List Int) (n : Int) : (putS l n).length ≤ l.length + 1 := by
  have : ∀ l : List Int, (l.filter (· < n)).length + (l.filter (n < ·)).length ≤ l.length := fun l => by
    induction l with
    | nil => simp
    | cons a t ih =>
      rw [List.filter_cons, List.filter_cons]
      by_cases h1 : a < n
      · have h2 : ¬ n < a := by omega
        rw [if_pos (by simpa using h1), if_neg (by simpa using h2), List.length_cons, List.length_cons]; omega
      · rw [if_neg (by simpa using h1)]
        split
        · rw [List.length_cons, List.length_cons]; omega
        · rw [List.length_cons]; omega
  have h := this l
  unfold putS
  rw [List.length_append, List.length_cons]
  omega
theorem Dm.mono {os2 : List Int} (h : Dm s os) (hs : ∀ x, x ∈ os → x ∈ os2) : Dm s os2 := fun i k w hi hw => hs _ (h i k w hi hw)
theorem Dm.put (h : Dm s os) (n : Int) : Dm s (putS os n) := h.mono (fun _ hx => putS_mem.2 (.inr hx))
theorem Dm.passed {P : ByteArray → Prop} (h : Dm s os) (hp : Passed P s s') : Dm s' os := fun i k w hi hw => by
  rw [hp.ow w]
  by_cases e : i = 0
  · subst e
    obtain ⟨j, hj, e⟩ := hp.hs k w hw
    exact h j k w hj e
  · exact h i k w hi (hp.sub i k w (by omega) hw)
theorem Dm.ask {b : Bool} {e : Int} (h : Dm s os) (hr : AskR s o k b e s') : Dm s' (putS os o) := by
  have same : Dm s (putS os o) := h.put o
  have new : ∀ {i0 : Nat} {q : Nat → ByteArray → List Nat} {con : Nat → Wc} {w : Nat} {x : Wc}, x.ow = o → con = updC s.con w x → q = updQ s.q i0 x.k (s.q i0 x.k ++ [w]) → (∀ i k', i < 3 → w ∉ s.q i k') → ∀ i k' y, i < 3 → y ∈ q i k' → (con y).ow ∈ putS os o := fun {i0 q con w x} hx hc hq hw i k' y hi hy => by
    subst hc hq
    rcases mem_updQ_snoc hy with c | c
    · rw [updC_other _ _ (fun e => hw i k' hi (by rw [← e]; exact c))]
      exact same i k' y hi c
    · rw [c, updC_same, hx]
      exact putS_mem.2 (.inl rfl)
  cases hr with
  | neg h => exact same
  | state w h h2 => exact same
  | has h0 h1 h2 h3 h4 => exact same
  | up K h0 h1 h2 h3 h4 h5 h6 =>
    intro i k' y hi hy
    show (updC s.con h0 ⟨k, b, (s.con h0).ow⟩ y).ow ∈ putS os o
    have h7 := same i k' y hi hy
    by_cases e : y = h0
    · rw [e, updC_same]; rw [e] at h7; exact h7
    · rw [updC_other _ _ e]; exact h7
  | upw K h0 w h1 h2 h3 h4 h5 h6 h7 => exact new (i0 := 1) (w := w) (x := ⟨k, b, o⟩) rfl rfl rfl h7
  | hold K m w h1 h2 h3 h4 h5 h6 => exact new (i0 := 0) (w := w) (x := ⟨k, b, o⟩) rfl rfl rfl h6
  | wait K w h1 h2 h3 h4 h5 => exact new (i0 := 2) (w := w) (x := ⟨k, b, o⟩) rfl rfl rfl h5
theorem Dm.quit {n j : Nat} {ks : List ByteArray} {ps : List Int} (h : Dm s os) (ha : Ac s n j) (hp : PassL (leftT s o) (keysL ks) ps s') : Dm s' os := by
  obtain ⟨c, h1, _, _⟩ := ha.w
  have d1 : Dm (leftT s o) os := fun i k w hi hw => h i k w hi (leftT_q hw)
  obtain ⟨_, f2, _⟩ := hp.all ha.g.c.leftT.1 (h1.sub (fun _ _ _ hy => leftT_q hy)) (keysL_nd _)
  exact d1.passed f2
theorem Dm.free {n j : Nat} {fs : List Int} {ks : List ByteArray} {ps : List Int} (h : Dm s os) (ha : Ac s n j) (hp : PassL (goneL s fs) (keysL ks) ps s') : Dm s' os := by
  obtain ⟨c, h1, _, _⟩ := ha.w
  obtain ⟨g1, _, g3, _, g5, _⟩ := goneL_all (os := fs) ha.g.c
  have d1 : Dm (goneL s fs) os := fun i k w hi hw => by rw [g3]; exact h i k w hi (g5 i k w hw)
  obtain ⟨_, f2, _⟩ := hp.all g1 (h1.sub g5) (keysL_nd _)
  exact d1.passed f2
/-- Who is freed is gone. -/
theorem Dm.freed {n j : Nat} {ks : List ByteArray} {ps : List Int} (h : Dm s (o :: os)) (ha : Ac s n j) (hp : PassL (goneL s [o]) (keysL ks) ps s') : Dm s' os := by
  obtain ⟨c, h1, _, _⟩ := ha.w
  obtain ⟨g1, _, g3, _, g5, _⟩ := goneL_all (os := [o]) ha.g.c
  have d1 : Dm (goneL s [o]) os := fun i k w hi hw => by
    rw [g3]
    have e : goneL s [o] = goneT s o := rfl
    rw [e] at hw
    obtain ⟨h2, h3⟩ := goneT_sub hw
    exact (List.mem_cons.1 (h i k w hi h2)).resolve_left (h3 hi)
  obtain ⟨_, f2, _⟩ := hp.all g1 (h1.sub g5) (keysL_nd _)
  exact d1.passed f2
/-- Where nobody is left nobody waits. -/
theorem Dm.none_waits (h : Dm s []) (hc : LkC s) (k : ByteArray) : ¬ waited s k := fun ⟨o, w, hw, _⟩ => by
  obtain ⟨_, i, hi, hq⟩ := hc.ok.w1 o w hw
  exact absurd (h i _ w (lt3 hi) hq) (by simp)
theorem row_mem {l : List Cl} {ks : List ByteArray} (hp : l.Perm (ks.map (clm s o))) (hk : ∀ k, k ∈ ks ↔ s.hd o k ≠ none) {z : Cl} (hz : z ∈ l) : ∃ w, s.hd o z.1 = some w ∧ z.2 = (s.con w).wr := by
  obtain ⟨k, h1, rfl⟩ := List.mem_map.1 (hp.mem_iff.1 hz)
  obtain ⟨w, hw⟩ := Option.ne_none_iff_exists'.1 ((hk k).1 h1)
  rw [clm_k]
  refine ⟨w, hw, ?_⟩
  unfold clm; rw [hw]
theorem mem_row {l : List Cl} {ks : List ByteArray} (hp : l.Perm (ks.map (clm s o))) (hk : ∀ k, k ∈ ks ↔ s.hd o k ≠ none) (h : s.hd o k ≠ none) : ∃ z, z ∈ l ∧ z.1 = k :=
  ⟨clm s o k, hp.mem_iff.2 (List.mem_map.2 ⟨k, (hk k).2 h, rfl⟩), clm_k s o k⟩
/-- Two that hold one key read it. -/
theorem rows_safe (hc : LkC s) {oa ob : Int} (hne : oa ≠ ob) {lx ly : List Cl} {kx ky : List ByteArray} (px : lx.Perm (kx.map (clm s oa))) (hx : ∀ k, k ∈ kx ↔ s.hd oa k ≠ none) (py : ly.Perm (ky.map (clm s ob))) (hy : ∀ k, k ∈ ky ↔ s.hd ob k ≠ none) {x y : Cl} (mx : x ∈ lx) (my : y ∈ ly) (e : x.1 = y.1) : x.2 = false ∧ y.2 = false := by
  obtain ⟨w1, a1, a2⟩ := row_mem px hx mx
  obtain ⟨w2, b1, b2⟩ := row_mem py hy my
  rw [← e] at b1
  obtain ⟨m1, o1⟩ := hc.ok.h1 _ _ _ a1
  obtain ⟨m2, o2⟩ := hc.ok.h1 _ _ _ b1
  have hw : w1 ≠ w2 := fun c => hne (by rw [← o1, ← o2, c])
  exact ⟨a2.trans (hc.ok.cp _ _ _ m1 m2 hw), b2.trans (hc.ok.cp _ _ _ m2 m1 (fun c => hw c.symm))⟩
/-- Who waits, waits for a key that somebody holds. -/
theorem waits_held {B : Nat} {W : World} {T ml mh mw n : Nat} (t : LkAt B W T ml mh mw n s) (hg : Good s) (hd : Dm s os) {w : Nat} (hw : s.wt o = some w) : ∃ o', o' ∈ os ∧ s.hd o' (s.con w).k ≠ none := by
  obtain ⟨_, i, hi, hq⟩ := hg.c.ok.w1 o w hw
  obtain ⟨K, hK⟩ := t.lk_some hq
  have h0 := (hg.st (s.con w).k).l (by rw [hK]; simp)
  cases e : s.q 0 (s.con w).k with
  | nil => exact absurd e h0
  | cons y r =>
    have hy : y ∈ s.q 0 (s.con w).k := by rw [e]; exact List.mem_cons_self ..
    exact ⟨(s.con y).ow, hd 0 _ y (by decide) hy, by rw [hg.c.ok.h2 _ y hy]; simp⟩
theorem up_ne {l : List Int} (h : l.Pairwise (· < ·)) {a b : Nat} (ha : a < l.length) (hb : b < l.length) (hab : a ≠ b) : l.getD a 0 ≠ l.getD b 0 := by
  rw [List.getD_eq_getElem?_getD, List.getD_eq_getElem?_getD, List.getElem?_eq_getElem ha, List.getElem?_eq_getElem hb]
  show l[a] ≠ l[b]
  have h2 := List.pairwise_iff_getElem.1 h
  rcases Nat.lt_or_gt_of_ne hab with c | c
  · have := h2 a b ha hb c; omega
  · have := h2 b a hb ha c; omega
end
/-- What an owner waits for, and whether it does. -/
theorem waits_u {B : Nat} {W : World} {T ml mh mw n : Nat} {s : Lk} {o : Int} (h : LkAt B W T ml mh mw n s) (hc : LkC s) (hwf : (Lit.int .i64 o).wf = true) :
    Calls Try.prog 17 #[.pointer (some ⟨T, 0, none⟩), .int .i64 o] W fun e W' => ∃ ck cb bw, e = .returned (.tuple #[.agg #[.string ck, .bool cb], .bool bw]) ∧ (bw = true → ∃ w, s.wt o = some w ∧ (s.con w).k = ck) ∧ Below W.heap.size W W' := by
  cases hw : s.wt o with
  | none => exact (waits_no h hwf hw).mono fun e W' q => ⟨_, _, false, q.1, (fun c => by cases c), q.2⟩
  | some w =>
    obtain ⟨_, i, hi, hq⟩ := hc.ok.w1 o w hw
    exact (waits_yes h hwf hw (h.wc i _ w (lt3 hi) hq)).mono fun e W' q => ⟨_, _, true, q.1, fun _ => ⟨w, rfl, rfl⟩, q.2⟩
theorem RowCl.cells {W : World} {B : Nat} {v : Value} {l : List Cl} (h : RowCl W B v l) : ∃ a c, v = .slice a l.length c ∧ ∀ i (hi : i < l.length), ∃ g, a = some ⟨g, 0, none⟩ ∧ v.ownBlock = some g ∧ ∀ X : World, X.heap[g]? = W.heap[g]? → X.cell? ⟨g, i * 2, none⟩ = some (.string l[i].1) ∧ X.cell? ⟨g, i * 2 + 1, none⟩ = some (.bool l[i].2) := by
  rcases h.2 with ⟨hv, hn⟩ | ⟨g, cap, cur, hv, _⟩
  · exact ⟨none, 0, by rw [hv, hn], fun i hi => by omega⟩
  · refine ⟨some ⟨g, 0, none⟩, cap, hv, fun i hi => ⟨g, rfl, by rw [hv]; rfl, fun X hX => ?_⟩⟩
    have h' : W.ownsRow B 40 2 (.slice (some ⟨g, 0, none⟩) l.length cap) l.length (flatC l) := hv ▸ h
    have e1 := flatC_get l (i * 2) (by omega)
    have e2 := flatC_get l (i * 2 + 1) (by omega)
    rw [show i * 2 / 2 = i by omega, show i * 2 % 2 = 0 by omega] at e1
    rw [show (i * 2 + 1) / 2 = i by omega, show (i * 2 + 1) % 2 = 1 by omega] at e2
    rw [World.cell?_of_block (a := ⟨g, i * 2, none⟩) hX, World.cell?_of_block (a := ⟨g, i * 2 + 1, none⟩) hX, World.ownsRow.cellAt h' _ (by omega), World.ownsRow.cellAt h' _ (by omega), e1, e2]
    have e3 : l[i]! = l[i] := getElem!_pos l i hi
    rw [e3]
    exact ⟨rfl, rfl⟩
end Go.Proofs.Ytgabdlnbencglaa
