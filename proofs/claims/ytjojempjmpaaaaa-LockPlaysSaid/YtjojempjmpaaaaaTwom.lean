/-
  ref14: A TABLE OF TWO LISTS, AS FUNCTIONS.
  ref14: THE TWO LISTS OF A TABLE OF LOCKS.
  ref14: A QUESTION, ON THE TWO LISTS.
  ref14: WHO LEAVES, AND WHO COMES TO HOLD THEN, ON THE TWO LISTS.
-/
import Derived.Test.YtjojempjmpaaaaaRefm2
namespace Go.Proofs.Ytjojempjmpaaaaa
open Go.RowKit
/-- Claims of which one is held. -/
def holdR (c : Wc) : List Wc → List Wc
  | [] => [c]
  | x :: t => if hitB c.ow c.k x = true then c :: t else x :: holdR c t
section
variable {c : Wc} {k : ByteArray} {o : Int}
theorem hitB_iff {x : Wc} : hitB o k x = true ↔ x.ow = o ∧ x.k = k := by
  unfold hitB
  rw [Bool.and_eq_true, decide_eq_true_iff, decide_eq_true_iff]
theorem isK_iff {x : Wc} : isK k x = true ↔ x.k = k := by unfold isK; rw [decide_eq_true_iff]
theorem isOw_iff {x : Wc} : isOw o x = true ↔ x.ow = o := by unfold isOw; rw [decide_eq_true_iff]
theorem holdR_no : ∀ {h : List Wc}, (∀ x, x ∈ h → hitB c.ow c.k x = false) → holdR c h = h ++ [c]
  | [], _ => rfl
  | x :: t, h => by
    rw [holdR, if_neg (by rw [h x (List.mem_cons_self ..)]; decide), holdR_no (fun y hy => h y (List.mem_cons_of_mem _ hy))]; rfl
theorem holdR_at : ∀ {h : List Wc} {i : Nat} (hi : i < h.length), (∀ j (hj : j < i), hitB c.ow c.k (h[j]'(Nat.lt_trans hj hi)) = false) → hitB c.ow c.k h[i] = true → holdR c h = h.take i ++ c :: h.drop (i + 1)
  | [], i, hi, _, _ => by simp at hi
  | x :: t, 0, _, _, h1 => by
    have h1 : hitB c.ow c.k x = true := h1
    rw [holdR, if_pos h1]; rfl
  | x :: t, i + 1, hi, h0, h1 => by
    have hx : hitB c.ow c.k x = false := h0 0 (Nat.succ_pos _)
    have hi2 : i < t.length := by simpa using hi
    have ih := holdR_at (h := t) (i := i) hi2 (fun j hj => h0 (j + 1) (Nat.succ_lt_succ hj)) h1
    rw [holdR, if_neg (by rw [hx]; decide), ih]; rfl
theorem findL_cases (o : Int) (k : ByteArray) (l : List Wc) : (findL o k l = -1 ∧ ∀ x, x ∈ l → hitB o k x = false) ∨ ∃ (i : Nat) (hi : i < l.length), findL o k l = (i : Int) ∧ (∀ j (hj : j < i), hitB o k (l[j]'(Nat.lt_trans hj hi)) = false) ∧ hitB o k l[i] = true := by
  cases e : l.findIdx? (hitB o k) with
  | none =>
    refine .inl ⟨by unfold findL; rw [e], fun x hx => ?_⟩
    exact List.findIdx?_eq_none_iff.1 e x hx
  | some i =>
    obtain ⟨hi, h1, h0⟩ := List.findIdx?_eq_some_iff_getElem.1 e
    exact .inr ⟨i, hi, by unfold findL; rw [e], fun j hj => by simpa using h0 j hj, h1⟩
theorem placeL_cases (p : Wc → Bool) (l : List Wc) : (placeL p l = -1 ∧ ∀ x, x ∈ l → p x = false) ∨ ∃ (i : Nat) (hi : i < l.length), placeL p l = (i : Int) ∧ (∀ j (hj : j < i), p (l[j]'(Nat.lt_trans hj hi)) = false) ∧ p l[i] = true := by
  cases e : l.findIdx? p with
  | none =>
    refine .inl ⟨by unfold placeL; rw [e], fun x hx => ?_⟩
    exact List.findIdx?_eq_none_iff.1 e x hx
  | some i =>
    obtain ⟨hi, h1, h0⟩ := List.findIdx?_eq_some_iff_getElem.1 e
    exact .inr ⟨i, hi, by unfold placeL; rw [e], fun j hj => by simpa using h0 j hj, h1⟩
theorem holdR_k : ∀ h : List Wc, (holdR c h).filter (isK c.k) = holdR c (h.filter (isK c.k))
  | [] => by
    have hc : isK c.k c = true := isK_iff.2 rfl
    show List.filter (isK c.k) [c] = [c]
    rw [List.filter_cons_of_pos hc]; rfl
  | x :: t => by
    have hc : isK c.k c = true := isK_iff.2 rfl
    by_cases e : hitB c.ow c.k x = true
    · have ek : isK c.k x = true := isK_iff.2 (hitB_iff.1 e).2
      rw [holdR, if_pos e, List.filter_cons_of_pos hc, List.filter_cons_of_pos ek, holdR, if_pos e]
    · rw [holdR, if_neg e]
      by_cases ek : isK c.k x = true
      · rw [List.filter_cons_of_pos ek, List.filter_cons_of_pos ek, holdR, if_neg e, holdR_k t]
      · rw [List.filter_cons_of_neg ek, List.filter_cons_of_neg ek, holdR_k t]
theorem holdR_o (hk : k ≠ c.k) : ∀ h : List Wc, (holdR c h).filter (isK k) = h.filter (isK k)
  | [] => by
    have hc : ¬ isK k c = true := fun e => hk (isK_iff.1 e).symm
    show List.filter (isK k) [c] = []
    rw [List.filter_cons_of_neg hc]; rfl
  | x :: t => by
    have hc : ¬ isK k c = true := fun e => hk (isK_iff.1 e).symm
    by_cases e : hitB c.ow c.k x = true
    · have ek : ¬ isK k x = true := fun e2 => hk ((isK_iff.1 e2).symm.trans (hitB_iff.1 e).2)
      rw [holdR, if_pos e, List.filter_cons_of_neg hc, List.filter_cons_of_neg ek]
    · rw [holdR, if_neg e]
      by_cases ek : isK k x = true
      · rw [List.filter_cons_of_pos ek, List.filter_cons_of_pos ek, holdR_o hk t]
      · rw [List.filter_cons_of_neg ek, List.filter_cons_of_neg ek, holdR_o hk t]
theorem holdR_len : ∀ h : List Wc, (holdR c h).length ≤ h.length + 1
  | [] => Nat.le_refl _
  | x :: t => by
    rw [holdR]
    split
    · simp
    · have := holdR_len t
      simp only [List.length_cons]; omega
theorem freeR_k (h : List Wc) : freeR (h.filter (isK c.k)) c = freeR h c := by
  unfold freeR
  rw [List.any_filter]
  congr 2
  funext x
  unfold isK barB
  cases decide (x.k = c.k) <;> rfl
/-- Who comes to hold a key: its line, and its holders. -/
def pkR : List Wc → List Wc → List Wc × List Wc × List Int
  | [], h => (h, [], [])
  | c :: l, h => if freeR h c = true then ((pkR l (holdR c h)).1, (pkR l (holdR c h)).2.1, c.ow :: (pkR l (holdR c h)).2.2) else (h, c :: l, [])
theorem pkR_yes {l h : List Wc} (e : freeR h c = true) : pkR (c :: l) h = ((pkR l (holdR c h)).1, (pkR l (holdR c h)).2.1, c.ow :: (pkR l (holdR c h)).2.2) := by rw [pkR, if_pos e]
theorem pkR_no {l h : List Wc} (e : freeR h c = false) : pkR (c :: l) h = (h, c :: l, []) := by rw [pkR, if_neg (by rw [e]; decide)]
/-- Where who holds a key already waits for it. -/
def lateB (H : List Wc) (k : ByteArray) (x : Wc) : Bool := isK k x && decide (findL x.ow k H < 0)
def atR (H L : List Wc) (k : ByteArray) : Nat := (L.findIdx? (lateB H k)).getD L.length
theorem atR_eq {H L : List Wc} {a : Nat} (ha : a ≤ L.length) (h0 : ∀ j (hj : j < L.length), j < a → lateB H k L[j] = false) (h1 : ∀ h : a < L.length, lateB H k L[a] = true) : atR H L k = a := by
  unfold atR
  by_cases e : a < L.length
  · rw [List.findIdx?_eq_some_iff_getElem.2 ⟨e, h1 e, fun j hj => by rw [h0 j (Nat.lt_trans hj e) hj]; decide⟩]; rfl
  · rw [List.findIdx?_eq_none_iff.2 (fun x hx => by
      obtain ⟨j, hj, rfl⟩ := List.mem_iff_getElem.1 hx
      exact h0 j hj (by omega))]
    show L.length = a
    omega
theorem atR_spec (H L : List Wc) (k : ByteArray) : atR H L k ≤ L.length ∧ (∀ x, x ∈ L.take (atR H L k) → lateB H k x = false) ∧ (∀ x, (L.drop (atR H L k)).head? = some x → lateB H k x = true) := by
  unfold atR
  cases e : L.findIdx? (lateB H k) with
  | none =>
    refine ⟨Nat.le_refl _, fun x hx => List.findIdx?_eq_none_iff.1 e x (List.mem_of_mem_take hx), fun x hx => ?_⟩
    simp at hx
  | some i =>
    obtain ⟨hi, h1, h0⟩ := List.findIdx?_eq_some_iff_getElem.1 e
    refine ⟨Nat.le_of_lt hi, fun x hx => ?_, fun x hx => ?_⟩
    · have hx : x ∈ L.take i := hx
      obtain ⟨j, hj, rfl⟩ := List.mem_iff_getElem.1 hx
      rw [List.length_take] at hj
      rw [List.getElem_take]
      simpa using h0 j (by omega)
    · have hx : (L.drop i).head? = some x := hx
      rw [List.head?_drop, List.getElem?_eq_getElem hi] at hx
      injection hx with hx
      rw [← hx]; exact h1
/-- A table behind a question, and the answer's number. -/
noncomputable def ask2 (H L : List Wc) (o : Int) (k : ByteArray) (b : Bool) : List Wc × List Wc × Int :=
  if o < 0 then (H, L, 1)
  else if 0 ≤ placeL (isOw o) L then (H, L, 12)
  else if 0 ≤ findL o k H ∧ ((H.getD (findL o k H).toNat noWc).wr = true ∨ b = false) then (H, L, 0)
  else if freeR H ⟨k, b, o⟩ = true ∧ (0 ≤ findL o k H ∨ L.filter (isK k) = []) then (holdR ⟨k, b, o⟩ H, L, 0)
  else (H, L.take (if 0 ≤ findL o k H then atR H L k else L.length) ++ ⟨k, b, o⟩ :: L.drop (if 0 ≤ findL o k H then atR H L k else L.length), 10)
/-- What a passing of all keys leaves. -/
structure PassR (H0 L0 H L : List Wc) (out : List Int) : Prop where
  h : ∀ k, H.filter (isK k) = (pkR (L0.filter (isK k)) (H0.filter (isK k))).1
  l : ∀ k, L.filter (isK k) = (pkR (L0.filter (isK k)) (H0.filter (isK k))).2.1
  o : out = (keysL (L0.map (·.k))).flatMap fun k => (pkR (L0.filter (isK k)) (H0.filter (isK k))).2.2
  n : H.length + L.length ≤ H0.length + L0.length
/-- The others. -/
def offR (os : List Int) (l : List Wc) : List Wc := l.filter fun x => !(decide (x.ow ∈ os))
end
/-- The keys of texts, rising: what nothing comes of doesn't matter. -/
theorem ofB_map (l : List (List UInt8)) : (ofB l).map (fun k : ByteArray => k.data.toList) = l := by
  unfold ofB
  rw [List.map_map]
  conv => rhs; rw [← List.map_id l]
  exact List.map_congr_left (fun x _ => by simp)
theorem keysL_up (l : List ByteArray) : UpK ((keysL l).map fun k : ByteArray => k.data.toList) := by
  unfold keysL
  rw [ofB_map]; exact (inAll_up _).1
theorem data_inj {a b : ByteArray} (h : a.data.toList = b.data.toList) : a = b := by
  cases a; cases b
  simp only at h
  rw [Array.toList_inj.1 h]
theorem upB_same {a b : List ByteArray} (ha : UpK (a.map fun k : ByteArray => k.data.toList)) (hb : UpK (b.map fun k : ByteArray => k.data.toList)) (h : ∀ k, k ∈ a ↔ k ∈ b) : a = b := by
  have e := upK_same ha hb (fun x => by
    rw [List.mem_map, List.mem_map]
    exact ⟨fun ⟨k, hk, e⟩ => ⟨k, (h k).1 hk, e⟩, fun ⟨k, hk, e⟩ => ⟨k, (h k).2 hk, e⟩⟩)
  exact (List.map_inj_right (fun x y e => data_inj e)).1 e
theorem flatMap_some {α β : Type} (p : α → Bool) (f : α → List β) : ∀ l : List α, (∀ x, p x = false → f x = []) → (l.filter p).flatMap f = l.flatMap f
  | [], _ => rfl
  | x :: t, h => by
    rw [List.flatMap_cons]
    cases e : p x with
    | true => rw [List.filter_cons_of_pos e, List.flatMap_cons, flatMap_some p f t h]
    | false => rw [List.filter_cons_of_neg (by rw [e]; decide), h x e, flatMap_some p f t h]; rfl
theorem keysL_flat {β : Type} {a b : List ByteArray} (f : ByteArray → List β) (h : ∀ k, f k ≠ [] → (k ∈ a ↔ k ∈ b)) : (keysL a).flatMap f = (keysL b).flatMap f := by
  classical
  have hp : ∀ x, (!(f x).isEmpty) = false → f x = [] := fun x e => by simpa using e
  rw [← flatMap_some (fun k => !(f k).isEmpty) f (keysL a) hp, ← flatMap_some (fun k => !(f k).isEmpty) f (keysL b) hp]
  congr 1
  refine upB_same ?_ ?_ (fun k => ?_)
  · exact (keysL_up a).sublist (List.filter_sublist.map _)
  · exact (keysL_up b).sublist (List.filter_sublist.map _)
  · rw [List.mem_filter, List.mem_filter, keysL_mem, keysL_mem]
    constructor
    · rintro ⟨h1, h2⟩; exact ⟨(h k (by simpa using h2)).1 h1, h2⟩
    · rintro ⟨h1, h2⟩; exact ⟨(h k (by simpa using h2)).2 h1, h2⟩
end Go.Proofs.Ytjojempjmpaaaaa

namespace Go.Proofs.Ytjojempjmpaaaaa
open Go.RowKit
/-- Two lists tell of a table: of each key its holders, and its line. -/
structure Two (s : Lk) (H L : List Wc) : Prop where
  h : ∀ k, H.filter (isK k) = (s.q 0 k).map s.con
  l : ∀ k, L.filter (isK k) = (s.q 1 k ++ s.q 2 k).map s.con
theorem two_none : Two Lk.none [] [] := ⟨fun _ => rfl, fun _ => rfl⟩
section
variable {s s' : Lk} {H L : List Wc} {o : Int} {k : ByteArray} {b : Bool} {w : Nat} {c : Wc}
theorem Two.hm (t : Two s H L) {x : Wc} (hx : x ∈ H) : ∃ y, y ∈ s.q 0 x.k ∧ s.con y = x := by
  have h1 : x ∈ H.filter (isK x.k) := List.mem_filter.2 ⟨hx, isK_iff.2 rfl⟩
  rw [t.h, List.mem_map] at h1
  exact h1
theorem Two.lm (t : Two s H L) {x : Wc} (hx : x ∈ L) : ∃ y i, (i = 1 ∨ i = 2) ∧ y ∈ s.q i x.k ∧ s.con y = x := by
  have h1 : x ∈ L.filter (isK x.k) := List.mem_filter.2 ⟨hx, isK_iff.2 rfl⟩
  rw [t.l, List.mem_map] at h1
  obtain ⟨y, hy, e⟩ := h1
  rcases List.mem_append.1 hy with c | c
  · exact ⟨y, 1, .inl rfl, c, e⟩
  · exact ⟨y, 2, .inr rfl, c, e⟩
theorem Two.mh (t : Two s H L) {y : Nat} (hy : y ∈ s.q 0 k) : s.con y ∈ H := by
  have h1 : s.con y ∈ H.filter (isK k) := by rw [t.h]; exact List.mem_map_of_mem hy
  exact (List.mem_filter.1 h1).1
theorem Two.ml (t : Two s H L) {y i : Nat} (hi : i = 1 ∨ i = 2) (hy : y ∈ s.q i k) : s.con y ∈ L := by
  have h1 : s.con y ∈ L.filter (isK k) := by
    rw [t.l]
    refine List.mem_map_of_mem (List.mem_append.2 ?_)
    rcases hi with rfl | rfl
    · exact .inl hy
    · exact .inr hy
  exact (List.mem_filter.1 h1).1
theorem Two.f0 (t : Two s H L) (hc : LkC s) (h : s.hd o k = none) : findL o k H = -1 ∧ ∀ x, x ∈ H → hitB o k x = false := by
  have h1 : ∀ x, x ∈ H → hitB o k x = false := fun x hx => by
    cases e : hitB o k x with
    | false => rfl
    | true =>
      obtain ⟨e1, e2⟩ := hitB_iff.1 e
      obtain ⟨y, hy, ey⟩ := t.hm hx
      have := hc.ok.h2 _ y hy
      rw [ey, e1, e2, h] at this; cases this
  refine ⟨?_, h1⟩
  rcases findL_cases o k H with ⟨e, _⟩ | ⟨i, hi, _, _, e⟩
  · exact e
  · rw [h1 _ (List.getElem_mem hi)] at e; cases e
theorem Two.f1 (t : Two s H L) (hc : LkC s) (h : s.hd o k = some w) : ∃ (i : Nat) (hi : i < H.length), findL o k H = (i : Int) ∧ H[i] = s.con w ∧ hitB o k (s.con w) = true := by
  obtain ⟨e1, e2⟩ := hc.ok.h1 o k w h
  have hk := (hc.ok.ck 0 k w (by decide) e1).1
  have hh : hitB o k (s.con w) = true := hitB_iff.2 ⟨e2, hk⟩
  have hm := t.mh e1
  rcases findL_cases o k H with ⟨_, e⟩ | ⟨i, hi, e, _, e3⟩
  · rw [e _ hm] at hh; cases hh
  · refine ⟨i, hi, e, ?_, hh⟩
    obtain ⟨y, hy, ey⟩ := t.hm (List.getElem_mem hi)
    obtain ⟨e4, e5⟩ := hitB_iff.1 e3
    have h2 := hc.ok.h2 _ y hy
    rw [ey, e4, e5, h] at h2
    injection h2 with h2
    rw [← ey, ← h2]
theorem Two.w0 (t : Two s H L) (hc : LkC s) (h : s.wt o = none) : placeL (isOw o) L = -1 ∧ ∀ x, x ∈ L → x.ow ≠ o := by
  have h1 : ∀ x, x ∈ L → x.ow ≠ o := fun x hx e => by
    obtain ⟨y, i, hi, hy, ey⟩ := t.lm hx
    have := hc.ok.w2 i _ y hi hy
    rw [ey, e, h] at this; cases this
  refine ⟨?_, h1⟩
  rcases placeL_cases (isOw o) L with ⟨e, _⟩ | ⟨i, hi, _, _, e⟩
  · exact e
  · exact absurd (isOw_iff.1 e) (h1 _ (List.getElem_mem hi))
theorem Two.w1 (t : Two s H L) (hc : LkC s) (h : s.wt o = some w) : ∃ (i : Nat) (hi : i < L.length), placeL (isOw o) L = (i : Int) ∧ L[i] = s.con w := by
  obtain ⟨e1, j, hj, e2⟩ := hc.ok.w1 o w h
  have hm := t.ml hj e2
  rcases placeL_cases (isOw o) L with ⟨_, e⟩ | ⟨i, hi, e, _, e3⟩
  · have := e _ hm
    rw [isOw_iff.2 e1] at this; cases this
  · refine ⟨i, hi, e, ?_⟩
    obtain ⟨y, i2, hi2, hy, ey⟩ := t.lm (List.getElem_mem hi)
    have h2 := hc.ok.w2 i2 _ y hi2 hy
    rw [ey, isOw_iff.1 e3, h] at h2
    injection h2 with h2
    rw [← ey, ← h2]
theorem fr_q (hc : LkC s) (hk : c.k = k) : freeR ((s.q 0 k).map s.con) c = freeB s.con c (s.q 0 k) := by
  subst hk
  cases e : freeB s.con c (s.q 0 c.k) with
  | true =>
    unfold freeR
    rw [Bool.not_eq_true', List.any_eq_false]
    intro x hx
    obtain ⟨y, hy, rfl⟩ := List.mem_map.1 hx
    unfold barB clash
    by_cases ho : (s.con y).ow = c.ow
    · simp [ho]
    · obtain ⟨e1, e2⟩ := hc.ok.free (hc.nd 0 c.k (by decide)) e hy ho
      simp [e1, e2]
  | false =>
    unfold freeB at e
    rw [Bool.not_eq_false', List.any_eq_true] at e
    obtain ⟨z, h1, h2⟩ := e
    unfold freeR
    rw [Bool.not_eq_false', List.any_eq_true]
    refine ⟨_, List.mem_map_of_mem (endsL_mem h1), ?_⟩
    unfold barB
    rw [(hc.ok.ck 0 c.k z (by decide) (endsL_mem h1)).1, h2]
    simp
theorem Two.fr (t : Two s H L) (hc : LkC s) : freeR H c = freeB s.con c (s.q 0 c.k) := by rw [← freeR_k, t.h, fr_q hc rfl]
theorem map_updC {q : List Nat} {con : Nat → Wc} (h : w ∉ q) : q.map (updC con w c) = q.map con :=
  List.map_congr_left fun y hy => updC_other _ _ (fun e => h (by rw [← e]; exact hy))
theorem holdR_app {x : Wc} {d : List Wc} : ∀ {a : List Wc}, (∀ y, y ∈ a → hitB c.ow c.k y = false) → hitB c.ow c.k x = true → holdR c (a ++ x :: d) = a ++ c :: d
  | [], _, h => by
    show holdR c (x :: d) = _
    rw [holdR, if_pos h]; rfl
  | y :: a, h0, h => by
    show holdR c (y :: (a ++ x :: d)) = _
    rw [holdR, if_neg (by rw [h0 y (List.mem_cons_self ..)]; decide), holdR_app (fun z hz => h0 z (List.mem_cons_of_mem _ hz)) h]; rfl
/-- What one holds is written over. -/
theorem up_q (hc : LkC s) {h0 : Nat} (hh : s.hd c.ow c.k = some h0) : (s.q 0 c.k).map (updC s.con h0 c) = holdR c ((s.q 0 c.k).map s.con) := by
  obtain ⟨e1, e2⟩ := hc.ok.h1 _ _ _ hh
  have hk := (hc.ok.ck 0 _ _ (by decide) e1).1
  have hn := hc.nd 0 c.k (by decide)
  have hu : ∀ y, y ∈ s.q 0 c.k → y ≠ h0 → hitB c.ow c.k (s.con y) = false := fun y hy hne => by
    cases e : hitB c.ow c.k (s.con y) with
    | false => rfl
    | true => exact absurd (hc.own1 hy hh (hitB_iff.1 e).1) hne
  obtain ⟨q1, q2, e⟩ := List.append_of_mem e1
  rw [e] at hn hu ⊢
  have h1 := List.nodup_append.1 hn
  have h2 := List.nodup_cons.1 h1.2.1
  have n1 : h0 ∉ q1 := fun hm => h1.2.2 h0 hm h0 (List.mem_cons_self ..) rfl
  rw [List.map_append, List.map_append, List.map_cons, List.map_cons, map_updC n1, map_updC h2.1, updC_same, holdR_app (fun y hy => by
    obtain ⟨z, hz, rfl⟩ := List.mem_map.1 hy
    exact hu z (List.mem_append_left _ hz) (fun e => n1 (by rw [← e]; exact hz))) (hitB_iff.2 ⟨e2, hk⟩)]
/-- One comes to hold. -/
theorem new_q (hc : LkC s) (hw : w ∉ s.q 0 c.k) (hh : s.hd c.ow c.k = none) : (s.q 0 c.k ++ [w]).map (updC s.con w c) = holdR c ((s.q 0 c.k).map s.con) := by
  rw [holdR_no (fun x hx => by
    obtain ⟨y, hy, rfl⟩ := List.mem_map.1 hx
    cases e : hitB c.ow c.k (s.con y) with
    | false => rfl
    | true =>
      have h2 := hc.ok.h2 _ y hy
      rw [(hitB_iff.1 e).1, hh] at h2; cases h2), List.map_append, map_updC hw]
  show _ ++ [updC s.con w c w] = _
  rw [updC_same]
theorem upS_eq (hc : LkC s) {h0 : Nat} (hh : s.hd c.ow c.k = some h0) : (upS s h0 c).con = updC s.con h0 c := by
  show updC s.con h0 ⟨c.k, c.wr, (s.con h0).ow⟩ = _
  rw [(hc.ok.h1 _ _ _ hh).2]
theorem split_one {α : Type} {P : α → Prop} : ∀ {a b c d : List α}, a ++ b = c ++ d → (∀ x, x ∈ a → P x) → (∀ x, x ∈ c → P x) → (∀ x, b.head? = some x → ¬ P x) → (∀ x, d.head? = some x → ¬ P x) → a = c ∧ b = d
  | [], b, [], d, e, _, _, _, _ => ⟨rfl, e⟩
  | [], b, y :: c, d, e, _, h2, h3, _ => by
    have e : b = y :: (c ++ d) := e
    subst e
    exact absurd (h2 y (List.mem_cons_self ..)) (h3 y rfl)
  | x :: a, b, [], d, e, h1, _, _, h4 => by
    have e : x :: (a ++ b) = d := e
    subst e
    exact absurd (h1 x (List.mem_cons_self ..)) (h4 x rfl)
  | x :: a, b, y :: c, d, e, h1, h2, h3, h4 => by
    have e : x :: (a ++ b) = y :: (c ++ d) := e
    injection e with e1 e2
    obtain ⟨r1, r2⟩ := split_one e2 (fun z hz => h1 z (List.mem_cons_of_mem _ hz)) (fun z hz => h2 z (List.mem_cons_of_mem _ hz)) h3 h4
    exact ⟨by rw [e1, r1], r2⟩
theorem head_filter_drop {α : Type} {p q : α → Bool} (hpq : ∀ x, q x = true → p x = true) {l : List α} (h : ∀ x, l.head? = some x → q x = true) : ∀ x, (l.filter p).head? = some x → q x = true := by
  cases l with
  | nil => intro x hx; cases hx
  | cons y t =>
    have hy := h y rfl
    rw [List.filter_cons_of_pos (hpq y hy)]
    intro x hx
    injection hx with hx
    rw [← hx]; exact hy
theorem Two.late (t : Two s H L) (hc : LkC s) {x : Wc} : lateB H k x = true ↔ x.k = k ∧ s.hd x.ow k = none := by
  unfold lateB
  rw [Bool.and_eq_true, isK_iff, decide_eq_true_iff]
  refine and_congr_right fun _ => ?_
  cases e : s.hd x.ow k with
  | none => rw [(t.f0 hc e).1]; simp
  | some w =>
    obtain ⟨i, _, e2, _⟩ := t.f1 hc e
    rw [e2]
    simp
/-- Who holds the key already waits ahead of those who don't. -/
theorem Two.at1 (t : Two s H L) (hc : LkC s) (hx : c.k = k) : (L.take (atR H L k) ++ c :: L.drop (atR H L k)).filter (isK k) = (s.q 1 k).map s.con ++ c :: (s.q 2 k).map s.con := by
  obtain ⟨_, h1, h2⟩ := atR_spec H L k
  have e := t.l k
  rw [← List.take_append_drop (atR H L k) L, List.filter_append, List.map_append] at e
  obtain ⟨r1, r2⟩ := split_one (P := fun x => lateB H k x = false) e
    (fun x hx => h1 x (List.mem_filter.1 hx).1)
    (fun x hx => by
      obtain ⟨y, hy, rfl⟩ := List.mem_map.1 hx
      cases q : lateB H k (s.con y) with
      | false => rfl
      | true => exact absurd ((t.late hc).1 q).2 (hc.ok.r1 k y hy))
    (fun x hx q => by
      have := head_filter_drop (p := isK k) (q := lateB H k) (fun z hz => isK_iff.2 ((t.late hc).1 hz).1) h2 x hx
      rw [q] at this; cases this)
    (fun x hx q => by
      obtain ⟨y, hy, rfl⟩ := List.mem_map.1 (List.mem_of_head? hx)
      have : lateB H k (s.con y) = true := (t.late hc).2 ⟨(hc.ok.ck 2 k y (by decide) hy).1, hc.ok.r2 k y hy⟩
      rw [q] at this; cases this)
  rw [List.filter_append, List.filter_cons_of_pos (isK_iff.2 hx), r1, r2]
theorem at_other {a : Nat} {k' : ByteArray} (hk : k' ≠ c.k) : (L.take a ++ c :: L.drop a).filter (isK k') = L.filter (isK k') := by
  conv => rhs; rw [← List.take_append_drop a L]
  rw [List.filter_append, List.filter_append, List.filter_cons_of_neg (fun e => hk (isK_iff.1 e).symm)]
end
end Go.Proofs.Ytjojempjmpaaaaa

namespace Go.Proofs.Ytjojempjmpaaaaa
open Go.RowKit
section
variable {s s' : Lk} {H L : List Wc} {o : Int} {k : ByteArray} {b : Bool} {w : Nat} {c : Wc}
theorem Two.lockS (t : Two s H L) (k : ByteArray) (K : Nat) : Two (lockS s k K) H L := ⟨t.h, t.l⟩
/-- One waits. -/
theorem Two.wait (t : Two s H L) {i : Nat} (hi : i = 1 ∨ i = 2) (hw : ∀ i k', i < 3 → w ∉ s.q i k') {L' : List Wc} (h0 : ∀ k', k' ≠ c.k → L'.filter (isK k') = L.filter (isK k'))
    (h1 : L'.filter (isK c.k) = (if i = 1 then (s.q 1 c.k).map s.con ++ c :: (s.q 2 c.k).map s.con else (s.q 1 c.k ++ s.q 2 c.k).map s.con ++ [c])) : Two (waitG s i w c) H L' := by
  refine ⟨fun k' => ?_, fun k' => ?_⟩
  · rw [t.h]
    show _ = ((updQ s.q i c.k (s.q i c.k ++ [w])) 0 k').map (updC s.con w c)
    rw [updQ_other _ _ (fun e => by omega), map_updC (hw 0 k' (by decide))]
  · show _ = ((updQ s.q i c.k (s.q i c.k ++ [w])) 1 k' ++ (updQ s.q i c.k (s.q i c.k ++ [w])) 2 k').map (updC s.con w c)
    by_cases e : k' = c.k
    · subst e
      rw [h1]
      rcases hi with rfl | rfl
      · rw [if_pos rfl, updQ_same, updQ_other _ _ (fun e => by omega), List.map_append, List.map_append, map_updC (hw 1 _ (by decide)), map_updC (hw 2 _ (by decide))]
        show _ = _ ++ [updC s.con w c w] ++ _
        rw [updC_same]
        simp
      · rw [if_neg (by decide), updQ_same, updQ_other _ _ (fun e => by omega), List.map_append, List.map_append, List.map_append, map_updC (hw 1 _ (by decide)), map_updC (hw 2 _ (by decide))]
        show _ = _ ++ (_ ++ [updC s.con w c w])
        rw [updC_same]
        simp
    · rw [h0 k' e, t.l, updQ_other _ _ (fun q => e q.2), updQ_other _ _ (fun q => e q.2), map_updC (fun q => (List.mem_append.1 q).elim (hw 1 k' (by decide)) (hw 2 k' (by decide)))]
/-- What one holds, or comes to hold, on the list. -/
theorem Two.held (t : Two s H L) {q0 : List Nat} {con' : Nat → Wc} (h1 : q0.map con' = holdR c ((s.q 0 c.k).map s.con)) (h0 : ∀ k', k' ≠ c.k → (s.q 0 k').map con' = (s.q 0 k').map s.con) : ∀ k', (holdR c H).filter (isK k') = (updQ s.q 0 c.k q0 0 k').map con' := fun k' => by
  by_cases e : k' = c.k
  · subst e
    rw [holdR_k, t.h, updQ_same, h1]
  · rw [holdR_o e, t.h, updQ_other _ _ (fun q => e q.2), h0 k' e]
theorem updQ_id (q : Nat → ByteArray → List Nat) (i : Nat) (k : ByteArray) : updQ q i k (q i k) = q := by
  funext i' k'
  by_cases e : i' = i ∧ k' = k
  · obtain ⟨rfl, rfl⟩ := e
    rw [updQ_same]
  · rw [updQ_other _ _ e]
theorem Two.up (t : Two s H L) (hc : LkC s) {h0 : Nat} (hh : s.hd c.ow c.k = some h0) : Two (upS s h0 c) (holdR c H) L := by
  obtain ⟨m0, _⟩ := hc.ok.h1 _ _ _ hh
  have nm : ∀ i k', i < 3 → ¬ (i = 0 ∧ k' = c.k) → h0 ∉ s.q i k' := fun i k' hi hne hm => hne (hc.qd i 0 k' c.k h0 hi (by decide) hm m0)
  have e := t.held (q0 := s.q 0 c.k) (con' := updC s.con h0 c) (up_q hc hh) (fun k' hk => map_updC (nm 0 k' (by decide) (fun q => hk q.2)))
  rw [updQ_id] at e
  refine ⟨fun k' => ?_, fun k' => ?_⟩
  · rw [e k', upS_eq hc hh]; rfl
  · rw [t.l, upS_eq hc hh]
    show _ = (s.q 1 k' ++ s.q 2 k').map _
    rw [map_updC (fun q => (List.mem_append.1 q).elim (nm 1 k' (by decide) (by omega)) (nm 2 k' (by decide) (by omega)))]
theorem Two.new (t : Two s H L) (hc : LkC s) {m : Nat} (hw : ∀ i k', i < 3 → w ∉ s.q i k') (hh : s.hd c.ow c.k = none) : Two (heldS s m w c) (holdR c H) L := by
  refine ⟨fun k' => t.held (new_q hc (hw 0 _ (by decide)) hh) (fun k' _ => map_updC (hw 0 k' (by decide))) k', fun k' => ?_⟩
  rw [t.l]
  show _ = ((updQ s.q 0 c.k (s.q 0 c.k ++ [w])) 1 k' ++ (updQ s.q 0 c.k (s.q 0 c.k ++ [w])) 2 k').map (updC s.con w c)
  rw [updQ_other _ _ (fun e => by omega), updQ_other _ _ (fun e => by omega), map_updC (fun q => (List.mem_append.1 q).elim (hw 1 k' (by decide)) (hw 2 k' (by decide)))]
theorem getD_at {l : List Wc} {i : Nat} (hi : i < l.length) : l.getD i noWc = l[i] := by
  rw [List.getD_eq_getElem?_getD, List.getElem?_eq_getElem hi]; rfl
/-- A question is answered the same, and leaves the same. -/
theorem Two.ask (t : Two s H L) (hc : LkC s) {e : Int} (r : AskR s o k b e s') : (ask2 H L o k b).2.2 = e ∧ Two s' (ask2 H L o k b).1 (ask2 H L o k b).2.1 := by
  unfold ask2
  cases r with
  | neg h => rw [if_pos h]; exact ⟨rfl, t⟩
  | state w h h2 =>
    obtain ⟨i, _, e, _⟩ := t.w1 hc h2
    rw [if_neg (by omega), if_pos (by rw [e]; exact Int.natCast_nonneg _)]
    exact ⟨rfl, t⟩
  | has h0 h1 h2 h3 h4 =>
    have e1 := (t.w0 hc h2).1
    obtain ⟨i, hi, e, e2, _⟩ := t.f1 hc h3
    rw [if_neg (by omega), if_neg (by rw [e1]; decide), if_pos ⟨by rw [e]; exact Int.natCast_nonneg _, by rw [e, Int.toNat_natCast, getD_at hi, e2]; exact h4⟩]
    exact ⟨rfl, t⟩
  | up K h0 h1 h2 h3 h4 h5 h6 =>
    have e1 := (t.w0 hc h2).1
    obtain ⟨i, hi, e, e2, _⟩ := t.f1 hc h3
    rw [if_neg (by omega), if_neg (by rw [e1]; decide), if_neg (fun q => by
      have q2 := q.2
      rw [e, Int.toNat_natCast, getD_at hi, e2, h4, h5] at q2
      rcases q2 with q2 | q2 <;> cases q2), if_pos ⟨(t.fr (c := ⟨k, b, o⟩) hc).trans h6, .inl (by rw [e]; exact Int.natCast_nonneg _)⟩]
    exact ⟨rfl, (t.lockS k K).up (hc.lockS k K) h3⟩
  | upw K h0 w h1 h2 h3 h4 h5 h6 h7 =>
    have e1 := (t.w0 hc h2).1
    obtain ⟨i, hi, e, e2, _⟩ := t.f1 hc h3
    have hp : 0 ≤ findL o k H := by rw [e]; exact Int.natCast_nonneg _
    rw [if_neg (by omega), if_neg (by rw [e1]; decide), if_neg (fun q => by
      have q2 := q.2
      rw [e, Int.toNat_natCast, getD_at hi, e2, h4, h5] at q2
      rcases q2 with q2 | q2 <;> cases q2), if_neg (fun q => by
      have := q.1
      rw [(t.fr (c := ⟨k, b, o⟩) hc)] at this
      rw [show freeB s.con ⟨k, b, o⟩ (s.q 0 k) = true from this] at h6; cases h6)]
    refine ⟨rfl, (t.lockS k K).wait (c := ⟨k, b, o⟩) (.inl rfl) h7 (fun k' hk => ?_) ?_⟩
    · show ((L.take _ ++ _ :: L.drop _).filter _) = _
      exact at_other hk
    · rw [if_pos rfl]
      show ((L.take _ ++ _ :: L.drop _).filter _) = _
      rw [if_pos hp]
      exact t.at1 (c := ⟨k, b, o⟩) hc rfl
  | hold K m w h1 h2 h3 h4 h5 h6 =>
    have e1 := (t.w0 hc h2).1
    have e := (t.f0 hc h3).1
    rw [if_neg (by omega), if_neg (by rw [e1]; decide), if_neg (fun q => by have := q.1; rw [e] at this; omega), if_pos ⟨(t.fr (c := ⟨k, b, o⟩) hc).trans h5, .inr (by rw [t.l, h4]; rfl)⟩]
    exact ⟨rfl, (t.lockS k K).new (hc.lockS k K) h6 h3⟩
  | wait K w h1 h2 h3 h4 h5 =>
    have e1 := (t.w0 hc h2).1
    have e := (t.f0 hc h3).1
    rw [if_neg (by omega), if_neg (by rw [e1]; decide), if_neg (fun q => by have := q.1; rw [e] at this; omega), if_neg (fun q => by
      rcases q.2 with q2 | q2
      · rw [e] at q2; omega
      · rcases h4 with h4 | h4
        · rw [t.l] at q2
          exact h4 (List.map_eq_nil_iff.1 q2)
        · have := q.1
          rw [(t.fr (c := ⟨k, b, o⟩) hc)] at this
          rw [show freeB s.con ⟨k, b, o⟩ (s.q 0 k) = true from this] at h4; cases h4)]
    refine ⟨rfl, (t.lockS k K).wait (c := ⟨k, b, o⟩) (.inr rfl) h5 (fun k' hk => ?_) ?_⟩
    · show ((L.take _ ++ _ :: L.drop _).filter _) = _
      exact at_other hk
    · rw [if_neg (show ¬ ((2 : Nat) = 1) by decide)]
      show ((L.take _ ++ _ :: L.drop _).filter _) = _
      rw [if_neg (by rw [e]; omega), List.take_length, List.drop_length, List.filter_append, t.l, List.filter_cons_of_pos (isK_iff.2 rfl)]
      rfl
end
end Go.Proofs.Ytjojempjmpaaaaa

namespace Go.Proofs.Ytjojempjmpaaaaa
open Go.RowKit
section
variable {s s' g : Lk} {H L H0 L0 H' L' : List Wc} {o : Int} {k : ByteArray} {b : Bool} {w c : Nat} {os ps : List Int} {ks kl : List ByteArray}
/-- A key's holders, and its line. -/
def hkS (s : Lk) (k : ByteArray) : List Wc := (s.q 0 k).map s.con
def lkS (s : Lk) (k : ByteArray) : List Wc := (s.q 1 k ++ s.q 2 k).map s.con
theorem SameAt.hk (h : SameAt s s' k) : hkS s' k = hkS s k := by
  unfold hkS
  rw [h.q 0 (by decide)]
  exact List.map_congr_left fun y hy => h.c 0 y (by decide) hy
theorem SameAt.lkq (h : SameAt s s' k) : lkS s' k = lkS s k := by
  unfold lkS
  rw [h.q 1 (by decide), h.q 2 (by decide)]
  refine List.map_congr_left fun y hy => ?_
  rcases List.mem_append.1 hy with c | c
  · exact h.c 1 y (by decide) c
  · exact h.c 2 y (by decide) c
theorem step_pk (hc : LkC s) (st : Step k s w s') : pkR (lkS s k) (hkS s k) = ((pkR (lkS s' k) (hkS s' k)).1, (pkR (lkS s' k) (hkS s' k)).2.1, (s.con w).ow :: (pkR (lkS s' k) (hkS s' k)).2.2) := by
  have main : lkS s k = s.con w :: lkS s' k → freeR (hkS s k) (s.con w) = true → hkS s' k = holdR (s.con w) (hkS s k) → pkR (lkS s k) (hkS s k) = ((pkR (lkS s' k) (hkS s' k)).1, (pkR (lkS s' k) (hkS s' k)).2.1, (s.con w).ow :: (pkR (lkS s' k) (hkS s' k)).2.2) := fun h1 h2 h3 => by
    rw [h1, pkR_yes h2, h3]
  cases st with
  | up r h0 e1 e2 e3 =>
    have hw : w ∈ s.q 1 k := by rw [e1]; exact List.mem_cons_self ..
    have hk := (hc.ok.ck 1 k w (by decide) hw).1
    obtain ⟨m0, _⟩ := hc.ok.h1 _ _ _ e2
    have nm : ∀ i, (i = 1 ∨ i = 2) → h0 ∉ s.q i k := fun i hi hm => by
      have := (hc.qd i 0 k k h0 (by omega) (by decide) hm m0).1
      omega
    have e2' : s.hd (s.con w).ow (s.con w).k = some h0 := by rw [hk]; exact e2
    have ec : (upS (leftG s 1 k r (s.con w).ow) h0 (s.con w)).con = updC s.con h0 (s.con w) := upS_eq (c := s.con w) hc e2'
    refine main ?_ ((fr_q hc hk).trans e3) ?_
    · unfold lkS
      rw [ec]
      show _ = _ :: (updQ s.q 1 k r 1 k ++ updQ s.q 1 k r 2 k).map _
      rw [updQ_same, updQ_other _ _ (fun e => by omega), e1, map_updC (fun q => (List.mem_append.1 q).elim (fun q => nm 1 (.inl rfl) (by rw [e1]; exact List.mem_cons_of_mem _ q)) (nm 2 (.inr rfl)))]
      rfl
    · unfold hkS
      rw [ec]
      show (updQ s.q 1 k r 0 k).map _ = _
      rw [updQ_other _ _ (fun e => by omega)]
      have := up_q (c := s.con w) hc e2'
      rw [hk] at this
      exact this
  | new r m e1 e2 e3 =>
    have hw : w ∈ s.q 2 k := by rw [e2]; exact List.mem_cons_self ..
    have hk := (hc.ok.ck 2 k w (by decide) hw).1
    have hd := hc.ok.r2 k w hw
    have n0 : w ∉ s.q 0 k := fun hm => by
      have := (hc.qd 2 0 k k w (by decide) (by decide) hw hm).1
      omega
    have ec : (heldS (leftG s 2 k r (s.con w).ow) m w (s.con w)).con = s.con := by
      show updC s.con w (s.con w) = s.con
      funext y
      unfold updC
      split
      · rename_i e; rw [e]
      · rfl
    refine main ?_ ((fr_q hc hk).trans e3) ?_
    · unfold lkS
      rw [ec]
      show _ = _ :: (updQ (updQ s.q 2 k r) 0 (s.con w).k (updQ s.q 2 k r 0 (s.con w).k ++ [w]) 1 k ++ updQ (updQ s.q 2 k r) 0 (s.con w).k (updQ s.q 2 k r 0 (s.con w).k ++ [w]) 2 k).map _
      rw [updQ_other _ _ (fun e => by omega), updQ_other _ _ (fun e => by omega), updQ_other _ _ (fun e => by omega), updQ_same, e1, e2]
      rfl
    · unfold hkS
      rw [ec]
      show (updQ (updQ s.q 2 k r) 0 (s.con w).k (updQ s.q 2 k r 0 (s.con w).k ++ [w]) 0 k).map _ = _
      rw [hk, updQ_same, updQ_other _ _ (fun e => by omega)]
      have := new_q (c := s.con w) (w := w) hc (by rw [hk]; exact n0) (by rw [hk]; exact hd)
      rw [hk] at this
      rw [← this]
      refine List.map_congr_left fun y _ => ?_
      unfold updC
      split
      · rename_i e; rw [e]
      · rfl
theorem passK_pk (hc : LkC s) (p : PassK k s ps s') : LkC s' ∧ pkR (lkS s k) (hkS s k) = ((pkR (lkS s' k) (hkS s' k)).1, (pkR (lkS s' k) (hkS s' k)).2.1, ps ++ (pkR (lkS s' k) (hkS s' k)).2.2) := by
  induction p with
  | nil => exact ⟨hc, rfl⟩
  | snoc _ st ih =>
    obtain ⟨h1, h2⟩ := ih
    refine ⟨(st.all h1).1, ?_⟩
    rw [h2, step_pk h1 st]
    simp
theorem stuck_pk (hc : LkC s) (st : Stuck k s) : pkR (lkS s k) (hkS s k) = (hkS s k, lkS s k, []) := by
  cases e : s.q 1 k ++ s.q 2 k with
  | nil =>
    have : lkS s k = [] := by unfold lkS; rw [e]; rfl
    rw [this]; rfl
  | cons w r =>
    have h1 := st w (by rw [e]; rfl)
    have hk : (s.con w).k = k := by
      have : w ∈ s.q 1 k ++ s.q 2 k := by rw [e]; exact List.mem_cons_self ..
      rcases List.mem_append.1 this with c | c
      · exact (hc.ok.ck 1 k w (by decide) c).1
      · exact (hc.ok.ck 2 k w (by decide) c).1
    have h2 : lkS s k = s.con w :: r.map s.con := by unfold lkS; rw [e]; rfl
    have h3 : freeR (hkS s k) (s.con w) = false := (fr_q hc hk).trans h1
    rw [h2, pkR_no h3]
theorem passL_pk (hc : LkC s) (hw : Wn s c) (p : PassL s ks ps s') (hn : ks.Nodup) : (∀ k, k ∈ ks → hkS s' k = (pkR (lkS s k) (hkS s k)).1 ∧ lkS s' k = (pkR (lkS s k) (hkS s k)).2.1) ∧ ps = ks.flatMap fun k => (pkR (lkS s k) (hkS s k)).2.2 := by
  induction p with
  | nil => exact ⟨fun _ h => (by cases h), rfl⟩
  | @snoc ks os o2 k s1 s2 pl pk st ih =>
    have hn1 := List.nodup_append.1 hn
    obtain ⟨i1, i2⟩ := ih hn1.1
    obtain ⟨c1, p1, _, w1, _⟩ := pl.all hc hw hn1.1
    obtain ⟨c2, p2, _, _⟩ := pk.all c1 w1
    have hk : k ∉ ks := fun q => hn1.2.2 k q k (List.mem_singleton.2 rfl) rfl
    have sa := p1.oth k hk
    obtain ⟨_, e1⟩ := passK_pk c1 pk
    rw [sa.lkq, sa.hk, stuck_pk c2 st] at e1
    have f1 : ∀ k', hkS (finS s2 k) k' = hkS s2 k' := fun _ => rfl
    have f2 : ∀ k', lkS (finS s2 k) k' = lkS s2 k' := fun _ => rfl
    refine ⟨fun k' hk' => ?_, ?_⟩
    · rw [f1, f2]
      rcases List.mem_append.1 hk' with q | q
      · have sb := p2.oth k' (fun e => hk (by rw [← e]; exact q))
        rw [sb.hk, sb.lkq]
        exact i1 k' q
      · obtain rfl := List.mem_singleton.1 q
        rw [e1]; exact ⟨rfl, rfl⟩
    · rw [List.flatMap_append, ← i2, List.flatMap_cons, List.flatMap_nil, e1]
      simp
theorem Two.pass (hg : LkC g) (hw : Wn g c) (hH : ∀ k, H0.filter (isK k) = hkS g k) (hL : ∀ k, L0.filter (isK k) = lkS g k) (p : PassL g (keysL kl) ps s') (st : ∀ k, k ∉ kl → Stuck k g) (r : PassR H0 L0 H' L' os) : Two s' H' L' ∧ ps = os := by
  obtain ⟨h1, h2⟩ := passL_pk hg hw p (keysL_nd _)
  have hp := (p.all hg hw (keysL_nd _)).2.1
  have all : ∀ k, hkS s' k = (pkR (lkS g k) (hkS g k)).1 ∧ lkS s' k = (pkR (lkS g k) (hkS g k)).2.1 := fun k => by
    by_cases e : k ∈ keysL kl
    · exact h1 k e
    · have sa := hp.oth k e
      rw [sa.hk, sa.lkq, stuck_pk hg (st k (fun q => e (keysL_mem.2 q)))]
      exact ⟨rfl, rfl⟩
  refine ⟨⟨fun k => ?_, fun k => ?_⟩, ?_⟩
  · rw [r.h k, hH, hL]; exact (all k).1.symm
  · rw [r.l k, hH, hL]; exact (all k).2.symm
  · rw [h2, r.o]
    have e : (fun k => (pkR (L0.filter (isK k)) (H0.filter (isK k))).2.2) = fun k => (pkR (lkS g k) (hkS g k)).2.2 := by
      funext k
      rw [hH, hL]
    rw [e]
    refine keysL_flat _ (fun k hk => ⟨fun _ => ?_, fun _ => ?_⟩)
    · refine Classical.byContradiction fun q => hk ?_
      have : lkS g k = [] := by
        rw [← hL k, List.filter_eq_nil_iff]
        intro x hx e2
        exact q (List.mem_map.2 ⟨x, hx, isK_iff.1 e2⟩)
      rw [this]; rfl
    · refine Classical.byContradiction fun q => hk ?_
      rw [stuck_pk hg (st k q)]
theorem goneL_q : ∀ (os : List Int) (s : Lk) (i : Nat) (k : ByteArray), (goneL s os).q i k = (s.q i k).filter fun y => !(decide ((s.con y).ow ∈ os))
  | [], s, i, k => by
    show s.q i k = _
    exact (List.filter_eq_self.2 (fun y _ => by simp)).symm
  | o :: os, s, i, k => by
    have e := goneL_q os (goneT s o) i k
    have e2 : (goneT s o).q i k = fl s.con o (s.q i k) := by
      by_cases hi : i = 0
      · subst hi; rfl
      · show (if i = 0 then fl s.con o (s.q 0 k) else if i = 0 then s.q 0 k else fl s.con o (s.q i k)) = _
        rw [if_neg hi, if_neg hi]
    have e3 : (goneT s o).con = s.con := rfl
    rw [e2, e3] at e
    show (goneL (goneT s o) os).q i k = _
    rw [e]
    unfold fl
    rw [List.filter_filter]
    refine List.filter_congr fun y _ => ?_
    by_cases q : (s.con y).ow = o <;> simp [q]
theorem offR_k (l : List Wc) {q : List Nat} {con : Nat → Wc} (h : l.filter (isK k) = q.map con) : (offR os l).filter (isK k) = (q.filter fun y => !(decide ((con y).ow ∈ os))).map con := by
  unfold offR
  rw [List.filter_filter]
  have : (fun x : Wc => isK k x && !(decide (x.ow ∈ os))) = fun x => (!(decide (x.ow ∈ os))) && isK k x := by
    funext x
    exact Bool.and_comm _ _
  rw [this, ← List.filter_filter, h, List.filter_map]
  rfl
theorem offR_len (l : List Wc) : (offR os l).length ≤ l.length := List.length_filter_le _ _
/-- Free. -/
theorem Two.free (t : Two s H L) (hg : Good s) (hw : Wn s c) (p : PassL (goneL s os) (keysL kl) ps s') (ho : ∀ k, k ∉ kl → SameAt s (goneL s os) k) {out : List Int} (r : PassR (offR os H) (offR os L) H' L' out) : Two s' H' L' ∧ ps = out := by
  obtain ⟨g1, _, g3, _, g5, _⟩ := goneL_all (os := os) hg.c
  refine Two.pass g1 (hw.sub g5) (fun k => ?_) (fun k => ?_) p (fun k hk => ((hg.st k).of (ho k hk)).f) r
  · unfold hkS
    rw [g3, goneL_q, offR_k H (t.h k)]
  · unfold lkS
    rw [g3, goneL_q, goneL_q, offR_k L (t.l k), List.filter_append]
/-- Quit of one that doesn't wait. -/
theorem Two.quit_no (t : Two s H L) (hg : Good s) (hw : Wn s c) (h : s.wt o = none) {out : List Int} (r : PassR H (offR [o] L) H' L' out) : Two s H' L' ∧ out = [] := by
  have e : offR [o] L = L := List.filter_eq_self.2 (fun x hx => by
    have := (t.w0 hg.c h).2 x hx
    simp [this])
  rw [e] at r
  obtain ⟨h1, h2⟩ := Two.pass (kl := []) hg.c hw t.h t.l (PassL.nil) (fun k _ => (hg.st k).f) r
  exact ⟨h1, h2.symm⟩
theorem Two.quit_yes (t : Two s H L) (hg : Good s) (hw : Wn s c) (h : s.wt o = some w) (p : PassL (leftT s o) (keysL [(s.con w).k]) ps s') {out : List Int} (r : PassR H (offR [o] L) H' L' out) : Two s' H' L' ∧ ps = out := by
  have hq : ∀ i k, i ≠ 0 → (leftT s o).q i k = (s.q i k).filter fun y => !(decide ((s.con y).ow ∈ [o])) := fun i k hi => by
    show (if i = 0 then s.q 0 k else fl s.con o (s.q i k)) = _
    rw [if_neg hi]
    unfold fl
    refine List.filter_congr fun y _ => ?_
    by_cases q : (s.con y).ow = o <;> simp [q]
  refine Two.pass hg.c.leftT.1 (hw.sub (fun _ _ _ hy => leftT_q hy)) (fun k => t.h k) (fun k => ?_) p (fun k hk => ((hg.st k).of (leftT_same hg.c h (fun e => hk (by rw [e]; exact List.mem_singleton.2 rfl)))).f) r
  unfold lkS
  rw [hq 1 k (by decide), hq 2 k (by decide), offR_k L (t.l k), List.filter_append]
  rfl
end
end Go.Proofs.Ytjojempjmpaaaaa
