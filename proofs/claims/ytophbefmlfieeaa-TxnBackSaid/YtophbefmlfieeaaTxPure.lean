/-
  WHAT NOTING A RECORD MAKES OF TRANSACTIONS, without blocks.
-/
import Derived.Test.YtophbefmlfieeaaTxClr
namespace Go.Proofs.Ytophbefmlfieeaa
open Go.RowKit
structure KS where
  id : Int
  home : Int
  first : Int
  last : Int
  st : Int
  cl : List Rc
  pl : List Plc
def KnD.s (d : KnD) : KS := ⟨d.id, d.home, d.first, d.last, d.st, d.cl, d.pl⟩
def absM (m : Int → Option (Nat × KnD)) : Int → Option KS := fun i => (m i).map (fun x => x.2.s)
/-- The places that are left. -/
def cutPl (pl : List Plc) (left : Int) : List Plc := (pl.reverse.dropWhile (fun p => decide (left < p.2))).reverse
theorem cutPl_of {pl : List Plc} {left : Int} {n : Nat} (h : PlCut pl left n) (h2 : 0 < n → ¬ left < (pl.getD (n - 1) noPl).2) : pl.take n = cutPl pl left := by
  have e : pl = pl.take n ++ pl.drop n := (List.take_append_drop n pl).symm
  have hd : ∀ x ∈ (pl.drop n).reverse, decide (left < x.2) = true := by
    intro x hx
    rw [List.mem_reverse] at hx
    obtain ⟨j, hj, rfl⟩ := List.mem_iff_getElem.1 hx
    rw [List.length_drop] at hj
    have := h.gone (n + j) (by omega) (by omega)
    rw [List.getD_eq_getElem?_getD, List.getElem?_eq_getElem (by omega)] at this
    rw [List.getElem_drop, decide_eq_true_iff]
    exact this
  have ht : ((pl.take n).reverse).dropWhile (fun p => decide (left < p.2)) = (pl.take n).reverse := by
    match n, h, h2 with
    | 0, _, _ => simp
    | n + 1, h, h2 =>
      have hn : n < pl.length := h.le
      rw [List.take_add_one, List.getElem?_eq_getElem hn, List.reverse_append]
      have := h2 (by omega)
      rw [Nat.add_sub_cancel, List.getD_eq_getElem?_getD, List.getElem?_eq_getElem hn] at this
      exact List.dropWhile_cons_of_neg (by simpa using this)
  unfold cutPl
  conv => rhs; rw [e]
  rw [List.reverse_append, List.dropWhile_append_of_pos hd, ht, List.reverse_reverse]
/-- What one transaction makes of a record. -/
def noteS (d : KS) (r : Rc) : Int × KS :=
  if d.st = 1 then
    if r.p = d.last then
      if r.k = 2 then (0, { d with last := r.g, cl := d.cl ++ [r] })
      else if r.k = 3 then (if tkb d.cl r = true then (0, { d with last := r.g, cl := d.cl.dropLast, pl := cutPl d.pl (d.cl.dropLast.length : Int) }) else (1, d))
      else if r.k = 4 then (0, { d with last := r.g, pl := d.pl ++ [(r.u, (d.cl.length : Int))] })
      else if r.k = 5 then (0, { d with last := r.g, st := 2 })
      else (0, { d with last := r.g, st := 3 })
    else (1, d)
  else (12, d)
def updA (A : Int → Option KS) (i : Int) (x : KS) : Int → Option KS := fun k => if k = i then some x else A k
def newKS (home g t : Int) : KS := ⟨t, home, g, g, 1, [], []⟩
/-- What a table makes of it. -/
def noteA (home : Int) (A : Int → Option KS) (r : Rc) : Int × (Int → Option KS) :=
  if r.ok = true then
    match A r.t with
    | none => if r.k = 1 then (0, updA A r.t (newKS home r.g r.t)) else (7, A)
    | some d => if r.k = 1 then (8, A) else (if (noteS d r).1 = 0 then (0, updA A r.t (noteS d r).2) else ((noteS d r).1, A))
  else (1, A)
theorem absM_upd (m : Int → Option (Nat × KnD)) (i : Int) (K : Nat) (d : KnD) : absM (updM m i (K, d)) = updA (absM m) i d.s := by
  funext j
  unfold absM updM updA
  by_cases h : j = i
  · rw [if_pos h, if_pos h]; rfl
  · rw [if_neg h, if_neg h]
theorem ok_kind {r : Rc} (h : r.ok = true) : 1 ≤ r.k ∧ r.k ≤ 6 := by
  unfold Rc.ok rcOk at h
  simp only [Bool.and_eq_true, decide_eq_true_eq] at h
  exact h.1.1.1.1
theorem tkb_true {l : List Rc} {r : Rc} (h : tkb l r = true) : ∃ l' c, l = l' ++ [c] ∧ backRc c r.g r.p = r := by
  rcases List.eq_nil_or_concat l with e | ⟨l', c, e⟩
  · rw [e] at h; simp [tkb] at h
  · rw [List.concat_eq_append] at e
    rw [e] at h
    refine ⟨l', c, e, ?_⟩
    simp only [tkb, List.getLast?_concat] at h
    exact (eqB_iff _ _).1 h
/-- How much a transaction may hold. -/
def Bnd (n : Nat) (d : KS) : Prop := d.cl.length ≤ n ∧ d.pl.length ≤ n
end Go.Proofs.Ytophbefmlfieeaa
