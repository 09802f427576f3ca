/-
  WHAT TxnOwn RESTS ON: what a table holds behind any records; Get and Back as it calls them; rows that are written.
-/
import Derived.Test.YtophbefmlfieeaaTxGet
import Derived.Test.YtophbefmlfieeaaTxWake
import Derived.Test.YtophbefmlfieeaaTxGreatA
import Derived.Test.YtophbefmlfieeaaTxArgs
namespace Go.Proofs.Ytophbefmlfieeaa
open Go.RowKit
/-- Behind i records: changes are changes, places have numbers that are no less than 0. -/
structure OwnK (d : KS) (i : Nat) : Prop where
  cl : d.cl.length ≤ i
  pl : d.pl.length ≤ i
  two : ∀ c ∈ d.cl, c.k = 2
  no : ∀ p ∈ d.pl, 0 ≤ p.1
def OwnI (A : Int → Option KS) (i : Nat) : Prop := ∀ j d, A j = some d → OwnK d i
theorem OwnK.more {d : KS} {i j : Nat} (h : OwnK d i) (hj : i ≤ j) : OwnK d j := ⟨Nat.le_trans h.cl hj, Nat.le_trans h.pl hj, h.two, h.no⟩
theorem cutPl_mem {pl : List Plc} {left : Int} {x : Plc} (h : x ∈ cutPl pl left) : x ∈ pl := by
  unfold cutPl at h
  rw [List.mem_reverse] at h
  exact List.mem_reverse.1 ((List.dropWhile_sublist _).subset h)
theorem cutPl_len (pl : List Plc) (left : Int) : (cutPl pl left).length ≤ pl.length := by
  unfold cutPl
  rw [List.length_reverse]
  have := (List.dropWhile_sublist (fun p : Plc => decide (left < p.2)) (l := pl.reverse)).length_le
  rwa [List.length_reverse] at this
theorem ok_undo {r : Rc} (h : r.ok = true) (hk : r.k = 4) : 0 ≤ r.u := by
  unfold Rc.ok rcOk at h
  simp only [Bool.and_eq_true] at h
  have := h.1.2
  unfold rcUndone at this
  rw [if_neg (by omega), if_pos hk] at this
  simp only [Bool.and_eq_true, decide_eq_true_eq] at this
  exact this.1
theorem noteS_own {d : KS} {r : Rc} {i : Nat} (hr : r.ok = true) (h : OwnK d i) : OwnK (noteS d r).2 (i + 1) := by
  have h1 := h.more (Nat.le_succ i)
  unfold noteS
  by_cases c1 : d.st = 1
  · rw [if_pos c1]
    by_cases c2 : r.p = d.last
    · rw [if_pos c2]
      by_cases k2 : r.k = 2
      · rw [if_pos k2]
        refine ⟨by have := h.cl; simp; omega, h1.pl, fun c hc => ?_, h.no⟩
        rcases List.mem_append.1 hc with q | q
        · exact h.two c q
        · rw [List.mem_singleton.1 q]; exact k2
      · rw [if_neg k2]
        by_cases k3 : r.k = 3
        · rw [if_pos k3]
          cases htk : tkb d.cl r
          · rw [if_neg (by decide)]; exact h1
          · rw [if_pos rfl]
            exact ⟨by have := h.cl; simp; omega, Nat.le_trans (cutPl_len _ _) h1.pl, fun c hc => h.two c (List.dropLast_subset _ hc), fun p hp => h.no p (cutPl_mem hp)⟩
        · rw [if_neg k3]
          by_cases k4 : r.k = 4
          · rw [if_pos k4]
            refine ⟨h1.cl, by have := h.pl; simp; omega, h.two, fun p hp => ?_⟩
            rcases List.mem_append.1 hp with q | q
            · exact h.no p q
            · rw [List.mem_singleton.1 q]; exact ok_undo hr k4
          · rw [if_neg k4]
            by_cases k5 : r.k = 5
            · rw [if_pos k5]; exact ⟨h1.cl, h1.pl, h.two, h.no⟩
            · rw [if_neg k5]; exact ⟨h1.cl, h1.pl, h.two, h.no⟩
    · rw [if_neg c2]; exact h1
  · rw [if_neg c1]; exact h1
theorem updA_some {A : Int → Option KS} {i j : Int} {x d : KS} (h : updA A i x j = some d) : (j = i ∧ d = x) ∨ A j = some d := by
  unfold updA at h
  by_cases e : j = i
  · rw [if_pos e] at h; injection h with h; exact .inl ⟨e, h.symm⟩
  · rw [if_neg e] at h; exact .inr h
theorem noteA_own {A : Int → Option KS} {home : Int} {r : Rc} {i : Nat} (h : OwnI A i) : OwnI (noteA home A r).2 (i + 1) := by
  intro j d hd
  have hm : ∀ {d}, A j = some d → OwnK d (i + 1) := fun hx => (h j _ hx).more (Nat.le_succ i)
  unfold noteA at hd
  cases hok : r.ok
  · rw [if_neg (by rw [hok]; decide)] at hd; exact hm hd
  · rw [if_pos hok] at hd
    cases hA : A r.t with
    | none =>
      rw [hA] at hd
      simp only at hd
      by_cases k1 : r.k = 1
      · rw [if_pos k1] at hd
        rcases updA_some hd with ⟨_, rfl⟩ | q
        · exact ⟨by simp [newKS], by simp [newKS], by simp [newKS], by simp [newKS]⟩
        · exact hm q
      · rw [if_neg k1] at hd; exact hm hd
    | some x =>
      rw [hA] at hd
      simp only at hd
      by_cases k1 : r.k = 1
      · rw [if_pos k1] at hd; exact hm hd
      · rw [if_neg k1] at hd
        by_cases e0 : (noteS x r).1 = 0
        · rw [if_pos e0] at hd
          rcases updA_some hd with ⟨_, rfl⟩ | q
          · exact noteS_own hok (h _ _ hA)
          · exact hm q
        · rw [if_neg e0] at hd; exact hm hd
/-! ### what Get and Back tell -/
def okA (A : Int → Option KS) (i : Int) : Bool := (A i).isSome
def eB (A : Int → Option KS) (i : Int) : Int := match A i with
  | none => 7
  | some d => if d.st = 1 then 0 else 12
def nB (A : Int → Option KS) (i : Int) : List Rc := match A i with
  | none => []
  | some d => if d.st = 1 then d.cl.reverse else []
theorem nB_two {A : Int → Option KS} {N : Nat} (h : OwnI A N) (i : Int) : ∀ c ∈ nB A i, c.k = 2 := by
  unfold nB
  cases hA : A i with
  | none => intro c hc; simp at hc
  | some d =>
    intro c hc
    simp only at hc
    by_cases e : d.st = 1
    · rw [if_pos e] at hc; exact (h i d hA).two c (List.mem_reverse.1 hc)
    · rw [if_neg e] at hc; simp at hc
theorem nB_len {A : Int → Option KS} {N : Nat} (h : OwnI A N) (i : Int) : (nB A i).length ≤ N := by
  unfold nB
  cases hA : A i with
  | none => simp
  | some d =>
    simp only
    by_cases e : d.st = 1
    · rw [if_pos e, List.length_reverse]; exact (h i d hA).cl
    · rw [if_neg e]; simp
section
variable {W : World} {B t M n N : Nat} {m : Int → Option (Nat × KnD)}
def GetP (W : World) (A : Int → Option KS) (i : Int) (N : Nat) (x : Ending) (w' : World) : Prop :=
  ∃ (i0 i1 i2 i3 i4 : Int) (ca pa : Option Addr) (cc pc : Nat) (cl : List Rc) (pl : List Plc),
    x = .returned (.tuple #[.agg #[.int .i64 i0, .int .i64 i1, .int .i64 i2, .int .i64 i3, .int .i64 i4, .slice ca cl.length cc, .slice pa pl.length pc], .bool (okA A i)]) ∧
    RecR w' W.heap.size (.slice ca cl.length cc) cl ∧ PlcR w' W.heap.size (.slice pa pl.length pc) pl ∧ (∀ k, (Value.slice ca cl.length cc).ownBlock = some k → (Value.slice pa pl.length pc).ownBlock ≠ some k) ∧ Below W.heap.size W w' ∧ cl.length ≤ N ∧ pl.length ≤ N ∧ ∀ p ∈ pl, 0 ≤ p.1
theorem tget_own (h : TbAt W B t M n m) (i : Int) (hi : (Lit.int .i64 i).wf = true) (hI : OwnI (absM m) N) (hN : N ≤ 1000) :
    Calls Try.prog 20 #[.pointer (some ⟨t, 0, none⟩), .int .i64 i] W (GetP W (absM m) i N) := by
  cases hA : absM m i with
  | none =>
    refine (tget_none h i hi (absM_none hA)).mono ?_
    rintro x w' ⟨rfl, hb⟩
    exact ⟨0, 0, 0, 0, 0, none, none, 0, 0, [], [], by unfold okA zTx; rw [hA]; rfl, World.ownsRow_nil _ _ _ _, World.ownsRow_nil _ _ _ _, by simp [Value.ownBlock], hb, by simp, by simp, by simp⟩
  | some d =>
    obtain ⟨K, D, hm, rfl⟩ := absM_some hA
    have hk := hI i _ hA
    have h1 : D.cl.length ≤ N := hk.cl
    have h2 : D.pl.length ≤ N := hk.pl
    refine (tget_some h i hi hm (by omega) (by omega)).mono ?_
    rintro x w' ⟨v, rfl, cv, pv, hv, hr, hp, hs, hb⟩
    injection hv with hv
    subst hv
    obtain ⟨ca, cc, rfl⟩ := hr.slice
    obtain ⟨pa, pc, rfl⟩ := hp.slice
    exact ⟨_, _, _, _, _, ca, pa, cc, pc, D.cl, D.pl, by unfold okA; rw [hA]; rfl, hr, hp, hs, hb, h1, h2, hk.no⟩
def BackP (W : World) (A : Int → Option KS) (i : Int) (x : Ending) (w' : World) : Prop :=
  ∃ a c, x = .returned (.tuple #[.slice a (nB A i).length c, .int .i64 (eB A i)]) ∧ RecR w' W.heap.size (.slice a (nB A i).length c) (nB A i) ∧ Below W.heap.size W w'
theorem tback_own (h : TbAt W B t M n m) (i : Int) (hi : (Lit.int .i64 i).wf = true) (hI : OwnI (absM m) N) (hN : N ≤ 1000) :
    Calls Try.prog 14 #[.pointer (some ⟨t, 0, none⟩), .int .i64 i, .slice none 0 0] W (BackP W (absM m) i) := by
  cases hA : absM m i with
  | none =>
    refine (tback_none h i hi (absM_none hA) none 0 0).mono ?_
    rintro x w' ⟨rfl, rfl⟩
    have e1 : nB (absM m) i = [] := by unfold nB; rw [hA]
    have e2 : eB (absM m) i = 7 := by unfold eB; rw [hA]
    unfold BackP
    rw [e1, e2]
    exact ⟨none, 0, rfl, World.ownsRow_nil _ _ _ _, Below.refl _ _⟩
  | some d =>
    obtain ⟨K, D, hm, rfl⟩ := absM_some hA
    have hk := hI i _ hA
    have h1 : D.cl.length ≤ N := hk.cl
    by_cases hst : D.st = 1
    · have e1 : nB (absM m) i = D.cl.reverse := by unfold nB; rw [hA]; simp only; rw [if_pos (show D.s.st = 1 from hst)]; rfl
      have e2 : eB (absM m) i = 0 := by unfold eB; rw [hA]; simp only; rw [if_pos (show D.s.st = 1 from hst)]
      refine (tback_all h i hi hm hst (by omega)).mono ?_
      rintro x w' ⟨v, rfl, hr, hb⟩
      obtain ⟨a, c, rfl⟩ := hr.slice
      unfold BackP
      rw [e1, e2]
      exact ⟨a, c, rfl, hr, hb⟩
    · have e1 : nB (absM m) i = [] := by unfold nB; rw [hA]; simp only; rw [if_neg (show ¬ D.s.st = 1 from hst)]
      have e2 : eB (absM m) i = 12 := by unfold eB; rw [hA]; simp only; rw [if_neg (show ¬ D.s.st = 1 from hst)]
      refine (tback_state h i hi hm hst none 0 0).mono ?_
      rintro x w' ⟨rfl, rfl⟩
      unfold BackP
      rw [e1, e2]
      exact ⟨none, 0, rfl, World.ownsRow_nil _ _ _ _, Below.refl _ _⟩
end
/-! ### rows that are written -/
structure RecsW (X : World) (g n : Nat) (P : Nat → Rc → Prop) : Prop where
  all : ∀ j, j < n → ∃ r, P j r ∧ ∀ q u, r.cells[q]? = some u → X.cell? ⟨g, j * 11 + q, none⟩ = some u
  fz : ∀ i, X.frozen? ⟨g, i, none⟩ = false
theorem recsW_of {W : World} {B g c : Nat} {l : List Rc} {P : Nat → Rc → Prop} (h : RecR W B (.slice (some ⟨g, 0, none⟩) l.length c) l) (hP : ∀ j, j < l.length → P j (l.getD j noRc)) : RecsW W g l.length P :=
  ⟨fun j hj => ⟨l.getD j noRc, hP j hj, fun q u hq => h.cell j q hj (by
    have := (List.getElem?_eq_some_iff.1 hq).1
    simpa [Rc.cells] using this) u hq⟩, fun i => World.ownsRow.frozenAt h i⟩
theorem frozen_sets (b : Nat) : ∀ (us : List Value) (o : Nat) (W : World) (x : Addr), (W.setCells b o us).frozen? x = W.frozen? x
  | [], _, _, _ => rfl
  | u :: us, o, W, x => by
    rw [World.setCells, frozen_sets b us (o + 1) _ x, World.frozen?_setCell]
theorem RecsW.set {X : World} {g n i : Nat} {P P' : Nat → Rc → Prop} (h : RecsW X g n P) (hi : i < n) (r0 : Rc) (h0 : P' i r0) (hP : ∀ j r, j ≠ i → P j r → P' j r) : RecsW (X.setCells g (i * 11) r0.cells) g n P' := by
  refine ⟨fun j hj => ?_, fun k => (frozen_sets g r0.cells (i * 11) X ⟨g, k, none⟩).trans (h.fz k)⟩
  by_cases e : j = i
  · subst e
    refine ⟨r0, h0, fun q u hq => ?_⟩
    obtain ⟨r, _, hr⟩ := h.all j hj
    obtain ⟨hlt, rfl⟩ := List.getElem?_eq_some_iff.1 hq
    exact World.cell?_setCells_in g r0.cells (j * 11) X (fun k hk => by
      rw [hr k (r.cells[k]'(by simpa [Rc.cells] using hk)) (List.getElem?_eq_getElem _)]; rfl) q hlt
  · obtain ⟨r, h1, hr⟩ := h.all j hj
    refine ⟨r, hP j r e h1, fun q u hq => ?_⟩
    have hq11 : q < 11 := by
      have := (List.getElem?_eq_some_iff.1 hq).1
      simpa [Rc.cells] using this
    rw [World.cell?_setCells_out g r0.cells (i * 11) X _ (fun _ _ => by
      have hl : r0.cells.length = 11 := rfl
      rw [hl]
      show j * 11 + q < i * 11 ∨ i * 11 + 11 ≤ j * 11 + q
      omega)]
    exact hr q u hq
theorem plc_sets {B q : Nat} {v : Value} {l : List Plc} (hq : ∀ k, v.ownBlock = some k → k ≠ q) : ∀ (us : List Value) (o : Nat) (W : World), PlcR W B v l → PlcR (W.setCells q o us) B v l
  | [], _, _, h => h
  | u :: us, o, W, h => plc_sets hq us (o + 1) (W.setCell ⟨q, o, none⟩ u) (row_grown h (Lib.grownBy_setCell W q o u) (fun k hk e => by
    injection e with e
    exact hq k hk e.symm))
theorem BoxL.sets {b q : Nat} {vs : List Value} (hb : b ≠ q) : ∀ (us : List Value) (o : Nat) (W : World), BoxL W q vs → BoxL (W.setCells b o us) q vs
  | [], _, _, h => h
  | u :: us, o, W, h => BoxL.sets hb us (o + 1) (W.setCell ⟨b, o, none⟩ u) (h.other hb)
end Go.Proofs.Ytophbefmlfieeaa
