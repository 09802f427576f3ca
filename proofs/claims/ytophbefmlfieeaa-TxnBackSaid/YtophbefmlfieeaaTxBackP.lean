/-
  WHAT TxnBack RESTS ON, without blocks: what holds of a transaction's changes and places; each of what Back tells is taken back.
-/
import Derived.Test.YtophbefmlfieeaaTxOwnA
namespace Go.Proofs.Ytophbefmlfieeaa
open Go.RowKit
/-- Behind i records, of the transaction id. -/
structure BackK (id : Int) (d : KS) (i : Nat) : Prop where
  cl : d.cl.length ≤ i
  pl : d.pl.length ≤ i
  chg : ∀ c ∈ d.cl, c.k = 2 ∧ c.ok = true ∧ c.t = id ∧ c.g ≤ d.last ∧ Short c
  last : 1 ≤ d.last
  plc : ∀ p ∈ d.pl, 0 ≤ p.2 ∧ p.2 ≤ (d.cl.length : Int)
  sort : d.pl.Pairwise (fun p q => p.2 ≤ q.2)
def BackI (A : Int → Option KS) (i : Nat) : Prop := ∀ j d, A j = some d → BackK j d i
theorem BackK.more {id : Int} {d : KS} {i j : Nat} (h : BackK id d i) (hj : i ≤ j) : BackK id d j := ⟨Nat.le_trans h.cl hj, Nat.le_trans h.pl hj, h.chg, h.last, h.plc, h.sort⟩
theorem cutPl_split (pl : List Plc) (left : Int) : ∃ rest, pl = cutPl pl left ++ rest ∧ ∀ x ∈ rest, left < x.2 := by
  refine ⟨(pl.reverse.takeWhile (fun p => decide (left < p.2))).reverse, ?_, fun x hx => ?_⟩
  · have := congrArg List.reverse (List.takeWhile_append_dropWhile (p := fun p : Plc => decide (left < p.2)) (l := pl.reverse))
    rw [List.reverse_append, List.reverse_reverse] at this
    unfold cutPl
    exact this.symm
  · rw [List.mem_reverse] at hx
    have := List.all_eq_true.1 (List.all_takeWhile (p := fun p : Plc => decide (left < p.2)) (l := pl.reverse)) x hx
    simpa using this
theorem cutPl_le {pl : List Plc} (hs : pl.Pairwise (fun p q => p.2 ≤ q.2)) (left : Int) : ∀ x ∈ cutPl pl left, x.2 ≤ left := by
  have hs2 : (cutPl pl left).Pairwise (fun p q => p.2 ≤ q.2) := by
    obtain ⟨rest, e, _⟩ := cutPl_split pl left
    rw [e] at hs
    exact (List.pairwise_append.1 hs).1
  intro x hx
  rcases List.eq_nil_or_concat (cutPl pl left) with e | ⟨l, y, e⟩
  · rw [e] at hx; simp at hx
  · rw [List.concat_eq_append] at e
    have hy : y.2 ≤ left := by
      have hr : pl.reverse.dropWhile (fun p => decide (left < p.2)) = y :: l.reverse := by
        have := congrArg List.reverse e
        unfold cutPl at this
        rw [List.reverse_reverse, List.reverse_append] at this
        exact this
      have := List.head?_dropWhile_not (fun p : Plc => decide (left < p.2)) pl.reverse
      rw [hr] at this
      simpa using this
    rw [e] at hx hs2
    rcases List.mem_append.1 hx with q | q
    · exact Int.le_trans ((List.pairwise_append.1 hs2).2.2 x q y (by simp)) hy
    · rw [List.mem_singleton.1 q]; exact hy
theorem cutPl_sort {pl : List Plc} (hs : pl.Pairwise (fun p q => p.2 ≤ q.2)) (left : Int) : (cutPl pl left).Pairwise (fun p q => p.2 ≤ q.2) := by
  obtain ⟨rest, e, _⟩ := cutPl_split pl left
  rw [e] at hs
  exact (List.pairwise_append.1 hs).1
theorem cutPl_place {pl : List Plc} {left no p1 ch : Int} (h : placeM pl no = some (p1, ch)) (hl : ch ≤ left) : placeM (cutPl pl left) no = some (p1, ch) := by
  obtain ⟨rest, e, hr⟩ := cutPl_split pl left
  unfold placeM at h ⊢
  rw [e, List.reverse_append, List.find?_append] at h
  cases hf : rest.reverse.find? (fun p => decide (p.1 = no)) with
  | none => rw [hf] at h; simpa using h
  | some x =>
    rw [hf] at h
    have hx := hr x (List.mem_reverse.1 (List.mem_of_find?_eq_some hf))
    simp at h
    rw [h] at hx
    simp at hx
    omega
theorem ok_num {r : Rc} (h : r.ok = true) : (1 ≤ r.t ∧ r.t ≤ 2147483647) ∧ (1 ≤ r.g ∧ r.g ≤ 4611686018427387903) ∧ (0 ≤ r.p ∧ r.p ≤ r.g - 1) := by
  unfold Rc.ok rcOk at h
  simp only [Bool.and_eq_true] at h
  have := h.1.1.1.2
  unfold rcNum at this
  simp only [Bool.and_eq_true, decide_eq_true_eq] at this
  exact ⟨this.1.1.1, this.1.1.2, this.1.2⟩
theorem noteS_back {id : Int} {d : KS} {r : Rc} {i : Nat} (hr : r.ok = true) (ht : r.t = id) (hsr : Short r) (h : BackK id d i) : BackK id (noteS d r).2 (i + 1) := by
  have h1 := h.more (Nat.le_succ i)
  have hn := ok_num hr
  unfold noteS
  by_cases c1 : d.st = 1
  · rw [if_pos c1]
    by_cases c2 : r.p = d.last
    · rw [if_pos c2]
      have hlast : d.last ≤ r.g := by omega
      have hg1 : 1 ≤ r.g := hn.2.1.1
      have hchg : ∀ c ∈ d.cl, c.k = 2 ∧ c.ok = true ∧ c.t = id ∧ c.g ≤ r.g ∧ Short c := fun c hc => by
        obtain ⟨q1, q2, q3, q4, q5⟩ := h.chg c hc
        exact ⟨q1, q2, q3, Int.le_trans q4 hlast, q5⟩
      by_cases k2 : r.k = 2
      · rw [if_pos k2]
        refine ⟨by have := h.cl; simp; omega, h1.pl, fun c hc => ?_, hg1, fun p hp => ?_, h.sort⟩
        · rcases List.mem_append.1 hc with q | q
          · exact hchg c q
          · rw [List.mem_singleton.1 q]; exact ⟨k2, hr, ht, Int.le_refl _, hsr⟩
        · have := h.plc p hp
          simp only [List.length_append, List.length_singleton]
          omega
      · rw [if_neg k2]
        by_cases k3 : r.k = 3
        · rw [if_pos k3]
          cases htk : tkb d.cl r
          · rw [if_neg (by decide)]; exact h1
          · rw [if_pos rfl]
            exact ⟨by have := h.cl; simp; omega, Nat.le_trans (cutPl_len _ _) h1.pl, fun c hc => hchg c (List.dropLast_subset _ hc), hg1, fun p hp => ⟨(h.plc p (cutPl_mem hp)).1, cutPl_le h.sort _ p hp⟩, cutPl_sort h.sort _⟩
        · rw [if_neg k3]
          by_cases k4 : r.k = 4
          · rw [if_pos k4]
            refine ⟨h1.cl, by have := h.pl; simp; omega, hchg, hg1, fun p hp => ?_, ?_⟩
            · rcases List.mem_append.1 hp with q | q
              · exact h.plc p q
              · rw [List.mem_singleton.1 q]; exact ⟨by simp, Int.le_refl _⟩
            · rw [List.pairwise_append]
              refine ⟨h.sort, List.pairwise_singleton _ _, fun p hp q hq => ?_⟩
              rw [List.mem_singleton.1 hq]
              exact (h.plc p hp).2
          · rw [if_neg k4]
            by_cases k5 : r.k = 5
            · rw [if_pos k5]; exact ⟨h1.cl, h1.pl, hchg, hg1, h.plc, h.sort⟩
            · rw [if_neg k5]; exact ⟨h1.cl, h1.pl, hchg, hg1, h.plc, h.sort⟩
    · rw [if_neg c2]; exact h1
  · rw [if_neg c1]; exact h1
theorem noteA_back {A : Int → Option KS} {home : Int} {r : Rc} {i : Nat} (hsr : Short r) (h : BackI A i) : BackI (noteA home A r).2 (i + 1) := by
  intro j d hd
  have hm : ∀ {d}, A j = some d → BackK j d (i + 1) := fun hx => (h j _ hx).more (Nat.le_succ i)
  unfold noteA at hd
  cases hok : r.ok
  · rw [if_neg (by rw [hok]; decide)] at hd; exact hm hd
  · rw [if_pos hok] at hd
    cases hA : A r.t with
    | none =>
      rw [hA] at hd
      simp only at hd
      by_cases k1 : r.k = 1
      · rw [if_pos k1] at hd
        rcases updA_some hd with ⟨_, rfl⟩ | q
        · exact ⟨by simp [newKS], by simp [newKS], by simp [newKS], (ok_num hok).2.1.1, by simp [newKS], by simp [newKS]⟩
        · exact hm q
      · rw [if_neg k1] at hd; exact hm hd
    | some x =>
      rw [hA] at hd
      simp only at hd
      by_cases k1 : r.k = 1
      · rw [if_pos k1] at hd; exact hm hd
      · rw [if_neg k1] at hd
        by_cases e0 : (noteS x r).1 = 0
        · rw [if_pos e0] at hd
          rcases updA_some hd with ⟨e, rfl⟩ | q
          · rw [e]; exact noteS_back hok rfl hsr (h _ _ hA)
          · exact hm q
        · rw [if_neg e0] at hd; exact hm hd
theorem vlEq_symm (hb ha : Bool) (sb sa : ByteArray) : vlEq ha sa hb sb = vlEq hb sb ha sa := by
  unfold vlEq
  cases hb <;> cases ha <;> simp [eq_comm]
/-- The record that takes a change back is right. -/
theorem ok_back {c : Rc} {gsn prev : Int} (hk : c.k = 2) (hc : c.ok = true) (h1 : 1 ≤ prev) (h2 : prev = gsn - 1) (h3 : gsn ≤ 4611686018427387903) (h4 : c.g ≤ prev) : rcOk 3 gsn c.t prev c.pg c.key c.ha c.sa c.hb c.sb c.g = true := by
  have hn := ok_num hc
  unfold Rc.ok at hc
  unfold rcOk at hc ⊢
  simp only [Bool.and_eq_true] at hc ⊢
  refine ⟨⟨⟨⟨by decide, ?_⟩, ?_⟩, ?_⟩, ?_⟩
  · unfold rcNum
    simp only [Bool.and_eq_true, decide_eq_true_eq]
    refine ⟨⟨⟨hn.1, by omega, h3⟩, by omega, by omega⟩, ?_⟩
    have : (prev == 0) = false := by rw [beq_eq_false_iff_ne]; omega
    rw [this]
    decide
  · have := hc.1.1.2
    unfold rcChg at this ⊢
    rw [hk] at this
    rw [vlEq_symm]
    simp only [Bool.or_eq_true, Bool.and_eq_true, Bool.not_eq_true'] at this ⊢
    refine .inr ?_
    rcases this with q | q
    · simp at q
    · exact ⟨⟨q.1.1, q.1.2.2, q.1.2.1⟩, q.2⟩
  · unfold rcUndone
    rw [if_pos rfl]
    simp only [Bool.and_eq_true, decide_eq_true_eq]
    exact ⟨hn.2.1.1, h4⟩
  · unfold rcSame
    simp
end Go.Proofs.Ytophbefmlfieeaa
