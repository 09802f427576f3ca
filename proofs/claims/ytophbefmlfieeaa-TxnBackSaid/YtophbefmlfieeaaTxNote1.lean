/-
  THE CONTRACT OF a table's Note of one record.
-/
import Derived.Test.YtophbefmlfieeaaTxStep
namespace Go.Proofs.Ytophbefmlfieeaa
open Go.RowKit
theorem rcs_blockQ {X Y : World} {q : Nat} {l : List Rc} (h : RcsAt X (some ⟨q, 0, none⟩) l) (hb : Y.heap[q]? = X.heap[q]?) : RcsAt Y (some ⟨q, 0, none⟩) l := by
  rcases h with h | ⟨b, off, e, hc⟩
  · exact .inl h
  · injection e with e
    injection e with e1 e2
    subst e1 e2
    have k : ∀ {o : Nat} {v : Value}, X.cell? ⟨q, o, none⟩ = some v → Y.cell? ⟨q, o, none⟩ = some v := fun hx => (World.cell?_of_block hb).trans hx
    exact .inr ⟨q, 0, rfl, fun i hi => by
      obtain ⟨c0, c1, c2, c3, c4, c5, c6, c7, c8, c9, c10⟩ := hc i hi
      exact ⟨k c0, k c1, k c2, k c3, k c4, k c5, k c6, k c7, k c8, k c9, k c10⟩⟩
section
variable {W : World} {B t M n q : Nat} {m : Int → Option (Nat × KnD)}
theorem tnote_one (h : TbAt W B t M n m) (home : Int) (r : Rc) (hq : R11 W q r) (hown : ∀ j, TbOwn M m j → j ≠ q) (hqt : q < W.heap.size) (hi : (Lit.int .i64 r.t).wf = true) (h1 : r.key.size ≤ 100) (h2 : r.sb.size ≤ 100) (h3 : r.sa.size ≤ 100) (hB : ∀ j d, absM m j = some d → Bnd 100000 d) (hn : n < maxLen) :
    Calls Try.prog 11 #[.pointer (some ⟨t, 0, none⟩), .int .i64 home, .slice (some ⟨q, 0, none⟩) 1 1] W
      (StepP W B t M n m (noteA home (absM m) r).1 (noteA home (absM m) r).2) := by
  have L : ∀ e X, (∃ n' m', n' ≤ n + 1 ∧ TbP W B t M n' m m' X ∧ absM m' = (noteA home (absM m) r).2) → e = (noteA home (absM m) r).1 → StepP W B t M n m (noteA home (absM m) r).1 (noteA home (absM m) r).2 (.returned (.int .i64 e)) X := fun e X hx he => by
    subst he
    exact ⟨rfl, hx⟩
  refine (tnote_any (W := W) (t := t) (M := M) home (some ⟨q, 0, none⟩) [r] 1
    (fun k X => RcsAt X (some ⟨q, 0, none⟩) [r] ∧ (if k = 0 then Below W.heap.size W X ∧ TbAt X B t M n m else (noteA home (absM m) r).1 = 0 ∧ ∃ n' m', n' ≤ n + 1 ∧ TbP W B t M n' m m' X ∧ absM m' = (noteA home (absM m) r).2))
    (fun e X => e = (noteA home (absM m) r).1 ∧ ∃ n' m', n' ≤ n + 1 ∧ TbP W B t M n' m m' X ∧ absM m' = (noteA home (absM m) r).2) ?_ ?_ ?_ ?_ ?_ (by simp)).mono ?_
  · intro k X Y hX hb
    refine ⟨hX.1.below hb, ?_⟩
    by_cases h0 : k = 0
    · have := hX.2
      rw [if_pos h0] at this ⊢
      exact ⟨this.1.trans (hb.mono this.1.size), this.2.below hb⟩
    · have := hX.2
      rw [if_neg h0] at this ⊢
      obtain ⟨a1, n', m', a2, a3, a4⟩ := this
      exact ⟨a1, n', m', a2, a3.trans (TbP.of_below a3.1 hb), a4⟩
  · intro k X hX
    have := hX.2
    by_cases h0 : k = 0
    · rw [if_pos h0] at this
      exact this.2.ct
    · rw [if_neg h0] at this
      obtain ⟨_, _, _, _, a3, _⟩ := this
      exact a3.1.ct
  · exact fun k X hX => hX.1
  · intro k X hk hX
    obtain rfl : k = 0 := by simpa using hk
    have h0 := hX.2
    rw [if_pos rfl] at h0
    refine (tb_note h0.2 home r.k r.g r.t r.p r.pg r.u r.key r.sb r.sa r.hb r.ha hi h1 h2 h3 hB hn).mono ?_
    rintro x w' ⟨rfl, n', m', b1, b2, b3⟩
    have b4 := tbp_mono h0.1 b2
    refine ⟨_, rfl, fun he => ⟨rcs_blockQ hX.1 (b2.2.1.block q (Nat.lt_of_lt_of_le hqt h0.1.size) (fun c => hown q c rfl)), ?_⟩, fun _ => ⟨rfl, n', m', b1, b4, b3⟩⟩
    rw [if_neg (by simp)]
    exact ⟨he, n', m', b1, b4, b3⟩
  · exact ⟨rcs_one hq, by rw [if_pos rfl]; exact ⟨Below.refl _ _, h⟩⟩
  · rintro x w' ⟨e, rfl, h0, h1⟩
    by_cases he : e = 0
    · have := (h0 he).2
      rw [if_neg (by simp)] at this
      exact L _ _ this.2 (he.trans this.1.symm)
    · exact L _ _ (h1 he).2 (h1 he).1
end
end Go.Proofs.Ytophbefmlfieeaa
