/-
  P16.3, without memory: moves, and what of them is needed.
-/
import Derived.Test.YtjjbdkgnkieliaaSpAwake
namespace Go.Proofs.Ytjjbdkgnkieliaa
/-- A move: whose it is, and whether it takes. -/
abbrev Mv := Nat × Bool
def stepN (n : Int) (take : Bool) : Int := if take then n + 1 else if n > 0 then n - 1 else n
/-- What a transaction needs behind moves. -/
def needM (t : Nat) : List Mv → Int → Int
  | [], n => n
  | m :: l, n => needM t l (if m.1 = t then stepN n m.2 else n)
def needs (t : Nat) (l : List Mv) : Int := needM t l 0
def sum4 (l : List Mv) : Int := needs 0 l + needs 1 l + needs 2 l + needs 3 l
/-- How many cells a page has behind moves. -/
def cellsN (n0 : Int) : List Mv → Int
  | [] => n0
  | m :: l => cellsN n0 l + (if m.2 then -1 else 1)
theorem needM_append (t : Nat) (a b : List Mv) : ∀ n, needM t (a ++ b) n = needM t b (needM t a n) := by
  induction a with
  | nil => intro n; rfl
  | cons m a ih => intro n; exact ih _
theorem needM_none (t : Nat) (l : List Mv) (h : ∀ m ∈ l, m.1 ≠ t) : ∀ n, needM t l n = n := by
  induction l with
  | nil => intro n; rfl
  | cons m l ih =>
    intro n
    show needM t l (if m.1 = t then stepN n m.2 else n) = n
    rw [if_neg (h m (by simp))]
    exact ih (fun x hx => h x (by simp [hx])) n
theorem needM_pos (t : Nat) (l : List Mv) : ∀ n : Int, 0 ≤ n → 0 ≤ needM t l n := by
  induction l with
  | nil => intro n h; exact h
  | cons m l ih =>
    intro n h
    refine ih _ ?_
    split
    · unfold stepN; split
      · omega
      · split <;> omega
    · exact h
theorem needs_pos (t : Nat) (l : List Mv) : 0 ≤ needs t l := needM_pos t l 0 (Int.le_refl _)
theorem needs_snoc (t : Nat) (l : List Mv) (m : Mv) : needs t (l ++ [m]) = if m.1 = t then stepN (needs t l) m.2 else needs t l := by
  unfold needs; rw [needM_append]; rfl
theorem needs_le (l : List Mv) (t : Nat) (ht : t < 4) : needs t l ≤ sum4 l := by
  have h0 := needs_pos 0 l
  have h1 := needs_pos 1 l
  have h2 := needs_pos 2 l
  have h3 := needs_pos 3 l
  unfold sum4
  match t, ht with
  | 0, _ => omega
  | 1, _ => omega
  | 2, _ => omega
  | 3, _ => omega
theorem sum4_pos (l : List Mv) : 0 ≤ sum4 l := by
  have h0 := needs_pos 0 l
  have h1 := needs_pos 1 l
  have h2 := needs_pos 2 l
  have h3 := needs_pos 3 l
  unfold sum4
  omega
/-- One transaction's need turns by d: so does the sum. -/
theorem sum4_turn (l l' : List Mv) (t : Nat) (ht : t < 4) (h : ∀ u, u ≠ t → needs u l' = needs u l) : sum4 l' = sum4 l + (needs t l' - needs t l) := by
  unfold sum4
  match t, ht with
  | 0, _ => rw [h 1 (by decide), h 2 (by decide), h 3 (by decide)]; omega
  | 1, _ => rw [h 0 (by decide), h 2 (by decide), h 3 (by decide)]; omega
  | 2, _ => rw [h 0 (by decide), h 1 (by decide), h 3 (by decide)]; omega
  | 3, _ => rw [h 0 (by decide), h 1 (by decide), h 2 (by decide)]; omega
theorem sum4_snoc (l : List Mv) (m : Mv) (ht : m.1 < 4) : sum4 (l ++ [m]) = sum4 l + (stepN (needs m.1 l) m.2 - needs m.1 l) := by
  have h := sum4_turn l (l ++ [m]) m.1 ht (fun u hu => by rw [needs_snoc, if_neg (fun e => hu e.symm)])
  rw [h, needs_snoc, if_pos rfl]
theorem cellsN_append (n0 : Int) (a b : List Mv) : cellsN n0 (a ++ b) = cellsN (cellsN n0 b) a := by
  induction a with
  | nil => rfl
  | cons m a ih =>
    show cellsN n0 (a ++ b) + _ = _
    rw [ih]; rfl
theorem cellsN_add (n0 d : Int) (l : List Mv) : cellsN (n0 + d) l = cellsN n0 l + d := by
  induction l with
  | nil => rfl
  | cons m l ih =>
    show cellsN (n0 + d) l + _ = cellsN n0 l + _ + d
    rw [ih]; omega
theorem cellsN_snoc (n0 : Int) (l : List Mv) (m : Mv) : cellsN n0 (l ++ [m]) = cellsN n0 l + (if m.2 then -1 else 1) := by
  rw [cellsN_append]
  show cellsN (n0 + _) l = _
  rw [cellsN_add]
theorem cellsN_bound (n0 : Int) (l : List Mv) : n0 - l.length ≤ cellsN n0 l ∧ cellsN n0 l ≤ n0 + l.length := by
  induction l with
  | nil => simp [cellsN]
  | cons m l ih =>
    have e : cellsN n0 (m :: l) = cellsN n0 l + (if m.2 then -1 else 1) := rfl
    rw [e, List.length_cons]
    split <;> omega
/-- The last move of a transaction is taken back: page and needs together don't grow. -/
theorem back_le (n0 : Int) (a b : List Mv) (m : Mv) (ht : m.1 < 4) (hb : ∀ x ∈ b, x.1 ≠ m.1) :
    cellsN n0 (a ++ b) = cellsN n0 (a ++ m :: b) + (if m.2 then 1 else -1) ∧ cellsN n0 (a ++ b) + sum4 (a ++ b) ≤ cellsN n0 (a ++ m :: b) + sum4 (a ++ m :: b) := by
  have hc : cellsN n0 (a ++ b) = cellsN n0 (a ++ m :: b) + (if m.2 then 1 else -1) := by
    rw [cellsN_append, cellsN_append]
    show _ = cellsN (cellsN n0 b + _) a + _
    rw [cellsN_add]
    split <;> omega
  have ht1 : needs m.1 (a ++ b) = needs m.1 a := by unfold needs; rw [needM_append, needM_none _ _ hb]
  have ht2 : needs m.1 (a ++ m :: b) = stepN (needs m.1 a) m.2 := by
    unfold needs; rw [needM_append]
    show needM m.1 b (if m.1 = m.1 then stepN (needM m.1 a 0) m.2 else _) = _
    rw [if_pos rfl, needM_none _ _ hb]
  have hs := sum4_turn (a ++ m :: b) (a ++ b) m.1 ht (fun u hu => by
    unfold needs; rw [needM_append, needM_append]
    show _ = needM u b (if m.1 = u then _ else _)
    rw [if_neg (fun e => hu e.symm)])
  refine ⟨hc, ?_⟩
  rw [hc, hs, ht1, ht2]
  have := needs_pos m.1 a
  unfold stepN
  cases m.2
  · simp only [Bool.false_eq_true, if_false]
    split <;> omega
  · simp only [if_true]
    omega
/-- A row of moves, as cells. -/
def flat (l : List Mv) : List Value := l.flatMap fun m => [.int .u8 (m.1 : Int), .bool m.2]
theorem flat_snoc (l : List Mv) (m : Mv) : flat l ++ [.int .u8 (m.1 : Int), .bool m.2] = flat (l ++ [m]) := by unfold flat; simp
theorem flat_append (a b : List Mv) : flat (a ++ b) = flat a ++ flat b := by unfold flat; simp
theorem flat_len (l : List Mv) : (flat l).length = l.length * 2 := by
  induction l with
  | nil => rfl
  | cons m l ih => show (_ :: _ :: flat l).length = _; simp [ih]; omega
def noMv : Mv := (0, false)
theorem flat_at (l : List Mv) (i : Nat) (h : i < l.length) : (flat l)[2 * i]? = some (.int .u8 ((l.getD i noMv).1 : Int)) ∧ (flat l)[2 * i + 1]? = some (.bool (l.getD i noMv).2) := by
  induction l generalizing i with
  | nil => simp at h
  | cons m l ih =>
    cases i with
    | zero => exact ⟨rfl, rfl⟩
    | succ i =>
      have := ih i (by simpa using h)
      exact this
/-- What the book says of page 3, and that it says nothing of others. -/
structure BkOk (b : Book) (l : List Mv) : Prop where
  own : ∀ t : Nat, t < 4 → b.1 (t : Int) 3 = needs t l
  all : b.2 3 = sum4 l
  oth : ∀ q, q ≠ 3 → (∀ t, b.1 t q = 0) ∧ b.2 q = 0
theorem BkOk.start : BkOk bk0 [] := ⟨fun _ _ => rfl, rfl, fun _ _ => ⟨fun _ => rfl, rfl⟩⟩
theorem BkOk.turn {b : Book} {l : List Mv} (h : BkOk b l) (t : Nat) (ht : t < 4) (z : Int) (m : Bool) (hz : needs t l + z = stepN (needs t l) m) : BkOk (noteB t b 3 z) (l ++ [(t, m)]) where
  own := fun u hu => by
    rw [needs_snoc]
    unfold noteB
    by_cases e : u = t
    · subst e
      simp only [upd2_same, if_true]
      unfold updI
      rw [if_pos rfl, h.own u hu, hz]
    · have e2 : (u : Int) ≠ (t : Int) := by omega
      simp only [upd2_other _ _ e2]
      rw [if_neg (fun x => e x.symm), h.own u hu]
  all := by
    rw [sum4_snoc _ _ ht]
    show updI b.2 3 (b.2 3 + z) 3 = _
    unfold updI
    rw [if_pos rfl, h.all]
    show _ = sum4 l + (stepN (needs t l) m - needs t l)
    omega
  oth := fun q hq => by
    refine ⟨fun u => ?_, ?_⟩
    · unfold noteB
      by_cases e : u = (t : Int)
      · subst e
        simp only [upd2_same]
        unfold updI
        rw [if_neg hq]; exact (h.oth q hq).1 _
      · simp only [upd2_other _ _ e]; exact (h.oth q hq).1 _
    · show updI b.2 3 _ q = 0
      unfold updI
      rw [if_neg hq]; exact (h.oth q hq).2
theorem BkOk.take {b : Book} {l : List Mv} (h : BkOk b l) (t : Nat) (ht : t < 4) : BkOk (takeB t b [3]) (l ++ [(t, true)]) :=
  h.turn t ht 1 true rfl
theorem BkOk.put {b : Book} {l : List Mv} (h : BkOk b l) (t : Nat) (ht : t < 4) : BkOk (putB t b [3]) (l ++ [(t, false)]) := by
  have hp := needs_pos t l
  show BkOk (putB1 t b 3) _
  unfold putB1
  rw [h.own t ht]
  split
  · rename_i h0
    exact h.turn t ht (-1) false (by unfold stepN; simp [h0]; omega)
  · rename_i h0
    have e : noteB t b 3 0 = b := by
      unfold noteB
      rw [Int.add_zero, Int.add_zero, updI_self]
      have : upd2 b.1 t 3 (b.1 t 3) = b.1 := by
        funext u
        by_cases e : u = (t : Int)
        · rw [e, upd2_same, updI_self]
        · rw [upd2_other _ _ e]
      rw [this]
    have := h.turn t ht 0 false (by unfold stepN; simp [h0])
    rw [e] at this; exact this
theorem BkOk.le {b : Book} {l : List Mv} (h : BkOk b l) (t : Nat) (ht : t < 4) : ∀ q, b.1 (t : Int) q ≤ b.2 q := by
  intro q
  by_cases e : q = 3
  · subst e; rw [h.own t ht, h.all]; exact needs_le l t ht
  · rw [(h.oth q e).1, (h.oth q e).2]; exact Int.le_refl _
end Go.Proofs.Ytjjbdkgnkieliaa
