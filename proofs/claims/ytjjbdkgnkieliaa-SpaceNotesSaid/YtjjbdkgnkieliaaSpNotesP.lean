/-
  P16.1, P16.2, without memory: a list of needs, as the law keeps it, and what a book says.
-/
import Derived.Test.YtjjbdkgnkieliaaSpDone
import Derived.Test.YtjjbdkgnkieliaaSpAwake
namespace Go.Proofs.Ytjjbdkgnkieliaa
open Go.RowKit
/-- A need: a transaction, a page, how much. -/
abbrev Nd := Int × Int × Int
def isK (t p : Int) (x : Nd) : Prop := x.1 = t ∧ x.2.1 = p
instance (t p : Int) (x : Nd) : Decidable (isK t p x) := by unfold isK; exact inferInstance
def nget (t p : Int) : List Nd → Int
  | [] => 0
  | x :: r => if isK t p x then x.2.2 else nget t p r
def sumP (p : Int) : List Nd → Int
  | [] => 0
  | x :: r => (if x.2.1 = p then x.2.2 else 0) + sumP p r
def upsert (t p : Int) (f : Int → Int) : List Nd → List Nd
  | [] => [(t, p, f 0)]
  | x :: r => if isK t p x then (t, p, f x.2.2) :: r else x :: upsert t p f r
def NoKey (t p : Int) (L : List Nd) : Prop := ∀ x ∈ L, ¬ isK t p x
def Dist (L : List Nd) : Prop := L.Pairwise fun x y => ¬ isK x.1 x.2.1 y
theorem nget_none {t p : Int} {L : List Nd} (h : NoKey t p L) : nget t p L = 0 := by
  induction L with
  | nil => rfl
  | cons x r ih =>
    unfold nget
    rw [if_neg (h x (by simp))]
    exact ih (fun y hy => h y (by simp [hy]))
theorem nget_upsert (t p t' p' : Int) (f : Int → Int) (L : List Nd) : nget t' p' (upsert t p f L) = if t' = t ∧ p' = p then f (nget t p L) else nget t' p' L := by
  induction L with
  | nil =>
    unfold upsert nget
    by_cases h : t' = t ∧ p' = p
    · rw [if_pos h, if_pos (by obtain ⟨rfl, rfl⟩ := h; exact ⟨rfl, rfl⟩)]
    · rw [if_neg h, if_neg (by intro q; exact h ⟨q.1.symm, q.2.symm⟩)]; rfl
  | cons x r ih =>
    unfold upsert
    by_cases hx : isK t p x
    · rw [if_pos hx]
      by_cases h : t' = t ∧ p' = p
      · obtain ⟨rfl, rfl⟩ := h
        rw [if_pos ⟨rfl, rfl⟩]
        unfold nget
        rw [if_pos ⟨rfl, rfl⟩, if_pos hx]
      · rw [if_neg h]
        have h1 : ¬ isK t' p' x := by intro q; exact h ⟨q.1.symm.trans hx.1, q.2.symm.trans hx.2⟩
        have h2 : ¬ isK t' p' (t, p, f x.2.2) := by intro q; exact h ⟨q.1.symm, q.2.symm⟩
        unfold nget
        rw [if_neg h1, if_neg h2]
    · rw [if_neg hx]
      show (if isK t' p' x then x.2.2 else nget t' p' (upsert t p f r)) = if t' = t ∧ p' = p then f (nget t p (x :: r)) else nget t' p' (x :: r)
      have e : nget t p (x :: r) = nget t p r := by show (if _ then _ else _) = _; rw [if_neg hx]
      rw [e, ih]
      by_cases h : t' = t ∧ p' = p
      · obtain ⟨rfl, rfl⟩ := h
        rw [if_neg hx, if_pos ⟨rfl, rfl⟩, if_pos ⟨rfl, rfl⟩]
      · rw [if_neg h, if_neg h]; rfl
theorem sum_upsert (t p q : Int) (f : Int → Int) (L : List Nd) : sumP q (upsert t p f L) = sumP q L + if q = p then f (nget t p L) - nget t p L else 0 := by
  induction L with
  | nil =>
    show (if p = q then f 0 else 0) + 0 = 0 + if q = p then f 0 - 0 else 0
    by_cases h : q = p
    · subst h; simp
    · rw [if_neg h, if_neg (fun e => h e.symm)]
  | cons x r ih =>
    unfold upsert
    by_cases hx : isK t p x
    · have e : nget t p (x :: r) = x.2.2 := by show (if _ then _ else _) = _; rw [if_pos hx]
      rw [if_pos hx, e]
      show (if p = q then f x.2.2 else 0) + sumP q r = ((if x.2.1 = q then x.2.2 else 0) + sumP q r) + _
      rw [hx.2]
      by_cases h : q = p
      · subst h; simp; omega
      · rw [if_neg (fun e => h e.symm), if_neg (fun e => h e.symm), if_neg h]; omega
    · have e : nget t p (x :: r) = nget t p r := by show (if _ then _ else _) = _; rw [if_neg hx]
      rw [if_neg hx, e]
      show _ + sumP q (upsert t p f r) = (_ + sumP q r) + _
      rw [ih]; omega
theorem mem_upsert {t p : Int} {f : Int → Int} {L : List Nd} {x : Nd} (h : x ∈ upsert t p f L) : x ∈ L ∨ ∃ n, x = (t, p, f n) ∧ (n = 0 ∨ (t, p, n) ∈ L) := by
  induction L with
  | nil => simp [upsert] at h; exact .inr ⟨0, h, .inl rfl⟩
  | cons y r ih =>
    unfold upsert at h
    by_cases hy : isK t p y
    · rw [if_pos hy] at h
      rcases List.mem_cons.1 h with h | h
      · refine .inr ⟨_, h, .inr ?_⟩
        obtain ⟨a, b, c⟩ := y
        obtain ⟨rfl, rfl⟩ := hy
        simp
      · exact .inl (by simp [h])
    · rw [if_neg hy] at h
      rcases List.mem_cons.1 h with h | h
      · exact .inl (by simp [h])
      · rcases ih h with h | ⟨n, e, h⟩
        · exact .inl (by simp [h])
        · exact .inr ⟨n, e, h.imp id (fun q => by simp [q])⟩
theorem dist_upsert {t p : Int} {f : Int → Int} {L : List Nd} (h : Dist L) : Dist (upsert t p f L) := by
  induction L with
  | nil => exact List.pairwise_singleton _ _
  | cons y r ih =>
    obtain ⟨h1, h2⟩ := List.pairwise_cons.1 h
    unfold upsert
    by_cases hy : isK t p y
    · rw [if_pos hy]
      refine List.pairwise_cons.2 ⟨fun x hx q => h1 x hx ?_, h2⟩
      exact ⟨q.1.trans hy.1.symm, q.2.trans hy.2.symm⟩
    · rw [if_neg hy]
      refine List.pairwise_cons.2 ⟨fun x hx q => ?_, ih h2⟩
      rcases mem_upsert hx with hx | ⟨n, e, _⟩
      · exact h1 x hx q
      · rw [e] at q
        exact hy ⟨q.1.symm, q.2.symm⟩
theorem len_upsert (t p : Int) (f : Int → Int) (L : List Nd) : (upsert t p f L).length ≤ L.length + 1 := by
  induction L with
  | nil => exact Nat.le_refl _
  | cons y r ih =>
    unfold upsert
    split
    · simp
    · simp only [List.length_cons]; omega
def noNd : Nd := (0, 0, 0)
theorem upsert_new {t p : Int} {f : Int → Int} {L : List Nd} (h : NoKey t p L) : upsert t p f L = L ++ [(t, p, f 0)] := by
  induction L with
  | nil => rfl
  | cons y r ih =>
    unfold upsert
    rw [if_neg (h y (by simp)), ih (fun x hx => h x (by simp [hx]))]; rfl
theorem upsert_at {t p : Int} {f : Int → Int} {L : List Nd} {k : Nat} (hk : k < L.length) (h : isK t p (L.getD k noNd)) (hb : ∀ j, j < k → ¬ isK t p (L.getD j noNd)) : upsert t p f L = L.set k (t, p, f (L.getD k noNd).2.2) ∧ nget t p L = (L.getD k noNd).2.2 := by
  induction L generalizing k with
  | nil => simp at hk
  | cons y r ih =>
    cases k with
    | zero =>
      have h' : isK t p y := h
      unfold upsert nget
      rw [if_pos h', if_pos h']; exact ⟨rfl, rfl⟩
    | succ k =>
      have h0 : ¬ isK t p y := hb 0 (by omega)
      obtain ⟨e1, e2⟩ := ih (k := k) (by simpa using hk) h (fun j hj => hb (j + 1) (by omega))
      unfold upsert nget
      rw [if_neg h0, if_neg h0, e1, e2]; exact ⟨rfl, rfl⟩
theorem nget_drop (t t' p : Int) (L : List Nd) : nget t' p (L.filter fun x => decide (x.1 ≠ t)) = if t' = t then 0 else nget t' p L := by
  induction L with
  | nil => simp [nget]
  | cons y r ih =>
    by_cases hy : y.1 = t
    · rw [List.filter_cons_of_neg (by simp [hy]), ih]
      by_cases e : t' = t
      · rw [if_pos e, if_pos e]
      · rw [if_neg e, if_neg e]
        show _ = if isK t' p y then _ else _
        rw [if_neg (fun q => e (q.1.symm.trans hy))]
    · rw [List.filter_cons_of_pos (by simp [hy])]
      show (if isK t' p y then y.2.2 else nget t' p (r.filter _)) = if t' = t then 0 else if isK t' p y then y.2.2 else nget t' p r
      rw [ih]
      by_cases e : t' = t
      · rw [if_pos e, if_pos e, if_neg (fun q => hy (q.1.trans e))]
      · rw [if_neg e, if_neg e]
theorem sum_drop {t p : Int} {L : List Nd} (h : Dist L) : sumP p (L.filter fun x => decide (x.1 ≠ t)) = sumP p L - nget t p L := by
  induction L with
  | nil => rfl
  | cons y r ih =>
    obtain ⟨h1, h2⟩ := List.pairwise_cons.1 h
    by_cases hy : y.1 = t
    · rw [List.filter_cons_of_neg (by simp [hy]), ih h2]
      show _ = (if y.2.1 = p then y.2.2 else 0) + sumP p r - if isK t p y then y.2.2 else nget t p r
      by_cases e : y.2.1 = p
      · rw [if_pos e, if_pos ⟨hy, e⟩]
        have : nget t p r = 0 := nget_none (fun x hx q => h1 x hx ⟨q.1.trans hy.symm, q.2.trans e.symm⟩)
        omega
      · rw [if_neg e, if_neg (show ¬ isK t p y from fun q => e q.2)]; omega
    · rw [List.filter_cons_of_pos (by simp [hy])]
      show (if y.2.1 = p then y.2.2 else 0) + sumP p (r.filter _) = (if y.2.1 = p then y.2.2 else 0) + sumP p r - if isK t p y then y.2.2 else nget t p r
      rw [ih h2, if_neg (show ¬ isK t p y from fun q => hy q.1)]; omega
/-- What a book says is what the list says. -/
structure NotOk (b : Book) (L : List Nd) : Prop where
  own : ∀ t p, b.1 t p = nget t p L
  all : ∀ p, b.2 p = sumP p L
  dist : Dist L
  nn : ∀ x ∈ L, 0 ≤ x.2.2
theorem nget_le {t p : Int} {L : List Nd} (h : ∀ x ∈ L, 0 ≤ x.2.2) : 0 ≤ sumP p L ∧ nget t p L ≤ sumP p L := by
  induction L with
  | nil => exact ⟨Int.le_refl _, Int.le_refl _⟩
  | cons y r ih =>
    obtain ⟨i1, i2⟩ := ih (fun x hx => h x (by simp [hx]))
    have hy := h y (by simp)
    show 0 ≤ (if y.2.1 = p then y.2.2 else 0) + sumP p r ∧ (if isK t p y then y.2.2 else nget t p r) ≤ (if y.2.1 = p then y.2.2 else 0) + sumP p r
    by_cases e : y.2.1 = p
    · rw [if_pos e]
      refine ⟨by omega, ?_⟩
      split <;> omega
    · rw [if_neg e, if_neg (show ¬ isK t p y from fun q => e q.2)]
      exact ⟨by omega, by omega⟩
theorem NotOk.le {b : Book} {L : List Nd} (h : NotOk b L) (t : Int) : ∀ q, b.1 t q ≤ b.2 q := fun q => by
  rw [h.own, h.all]; exact (nget_le h.nn).2
theorem NotOk.start : NotOk bk0 [] := ⟨fun _ _ => rfl, fun _ => rfl, List.Pairwise.nil, fun x hx => by simp at hx⟩
theorem NotOk.turn {b : Book} {L : List Nd} (h : NotOk b L) (t p z : Int) (f : Int → Int) (hf : f (nget t p L) = nget t p L + z) (h0 : ∀ n, 0 ≤ n → 0 ≤ f n) : NotOk (noteB t b p z) (upsert t p f L) where
  own := fun t' p' => by
    rw [nget_upsert, hf]
    show upd2 b.1 t p (b.1 t p + z) t' p' = _
    by_cases e : t' = t
    · subst e
      rw [upd2_same]
      unfold updI
      by_cases e2 : p' = p
      · rw [if_pos e2, if_pos ⟨rfl, e2⟩, h.own]
      · rw [if_neg e2, if_neg (fun q => e2 q.2), h.own]
    · rw [upd2_other _ _ e, if_neg (fun q => e q.1), h.own]
  all := fun p' => by
    rw [sum_upsert, hf]
    show updI b.2 p (b.2 p + z) p' = _
    unfold updI
    by_cases e : p' = p
    · subst e
      rw [if_pos rfl, if_pos rfl, h.all]; omega
    · rw [if_neg e, if_neg e, h.all]; omega
  dist := dist_upsert h.dist
  nn := fun x hx => by
    rcases mem_upsert hx with hx | ⟨n, rfl, hn | hn⟩
    · exact h.nn x hx
    · exact h0 n (by omega)
    · exact h0 n (h.nn _ hn)
def up (n : Int) : Int := n + 1
def dn (n : Int) : Int := if n > 0 then n - 1 else n
theorem NotOk.take1 {b : Book} {L : List Nd} (h : NotOk b L) (t p : Int) : NotOk (noteB t b p 1) (upsert t p up L) := h.turn t p 1 up rfl (fun n hn => by unfold up; omega)
theorem NotOk.put1 {b : Book} {L : List Nd} (h : NotOk b L) (t p : Int) : NotOk (putB1 t b p) (upsert t p dn L) := by
  have hd : ∀ n : Int, 0 ≤ n → 0 ≤ dn n := fun n hn => by unfold dn; split <;> omega
  unfold putB1
  rw [h.own t p]
  split
  · rename_i h0
    exact h.turn t p (-1) dn (by unfold dn; rw [if_pos h0]; rfl) hd
  · rename_i h0
    have e : noteB t b p 0 = b := by
      unfold noteB
      rw [Int.add_zero, Int.add_zero, updI_self]
      have : upd2 b.1 t p (b.1 t p) = b.1 := by
        funext u
        by_cases e : u = t
        · rw [e, upd2_same, updI_self]
        · rw [upd2_other _ _ e]
      rw [this]
    have := h.turn t p 0 dn (by unfold dn; rw [if_neg h0]; omega) hd
    rw [e] at this; exact this
theorem NotOk.done {b : Book} {L : List Nd} (h : NotOk b L) (t : Int) : NotOk (doneB1 t b) (L.filter fun x => decide (x.1 ≠ t)) where
  own := fun t' p => by
    rw [nget_drop]
    show (if t' = t then (fun _ => 0) else b.1 t') p = _
    by_cases e : t' = t
    · rw [if_pos e, if_pos e]
    · rw [if_neg e, if_neg e, h.own]
  all := fun p => by
    rw [sum_drop h.dist]
    show b.2 p - b.1 t p = _
    rw [h.all, h.own]
  dist := h.dist.filter _
  nn := fun x hx => h.nn x (List.mem_filter.1 hx).1
def upL (t : Int) (f : Int → Int) (L : List Nd) (ml : List Int) : List Nd := ml.foldl (fun L p => upsert t p f L) L
theorem NotOk.take {t : Int} (ml : List Int) : ∀ {b : Book} {L : List Nd}, NotOk b L → NotOk (takeB t b ml) (upL t up L ml) := by
  induction ml with
  | nil => intro b L h; exact h
  | cons p ml ih => intro b L h; exact ih (h.take1 t p)
theorem NotOk.put {t : Int} (ml : List Int) : ∀ {b : Book} {L : List Nd}, NotOk b L → NotOk (putB t b ml) (upL t dn L ml) := by
  induction ml with
  | nil => intro b L h; exact h
  | cons p ml ih => intro b L h; exact ih (h.put1 t p)
theorem len_upL (t : Int) (f : Int → Int) (ml : List Int) : ∀ L : List Nd, (upL t f L ml).length ≤ L.length + ml.length := by
  induction ml with
  | nil => intro L; exact Nat.le_refl _
  | cons p ml ih =>
    intro L
    have h1 := ih (upsert t p f L)
    have h2 := len_upsert t p f L
    show (upL t f (upsert t p f L) ml).length ≤ _
    simp only [List.length_cons]; omega
/-- A row of needs, as cells. -/
def flat3 (l : List Nd) : List Value := l.flatMap fun x => [.int .i64 x.1, .int .i64 x.2.1, .int .i64 x.2.2]
theorem flat3_snoc (l : List Nd) (x : Nd) : flat3 l ++ [.int .i64 x.1, .int .i64 x.2.1, .int .i64 x.2.2] = flat3 (l ++ [x]) := by unfold flat3; simp
theorem flat3_len (l : List Nd) : (flat3 l).length = l.length * 3 := by
  induction l with
  | nil => rfl
  | cons m l ih => show (_ :: _ :: _ :: flat3 l).length = _; simp [ih]; omega
theorem flat3_at (l : List Nd) (i : Nat) (h : i < l.length) : (flat3 l)[3 * i]? = some (.int .i64 (l.getD i noNd).1) ∧ (flat3 l)[3 * i + 1]? = some (.int .i64 (l.getD i noNd).2.1) ∧ (flat3 l)[3 * i + 2]? = some (.int .i64 (l.getD i noNd).2.2) := by
  induction l generalizing i with
  | nil => simp at h
  | cons m l ih =>
    cases i with
    | zero => exact ⟨rfl, rfl, rfl⟩
    | succ i => exact ih i (by simpa using h)
theorem flat3_set (l : List Nd) (k : Nat) (h : k < l.length) (n : Int) : (flat3 l).set (3 * k + 2) (.int .i64 n) = flat3 (l.set k ((l.getD k noNd).1, (l.getD k noNd).2.1, n)) := by
  induction l generalizing k with
  | nil => simp at h
  | cons m l ih =>
    cases k with
    | zero => rfl
    | succ k =>
      have := ih k (by simpa using h)
      show _ :: _ :: _ :: (flat3 l).set (3 * k + 2) _ = _ :: _ :: _ :: flat3 (l.set k _)
      rw [this]; rfl
end Go.Proofs.Ytjjbdkgnkieliaa
