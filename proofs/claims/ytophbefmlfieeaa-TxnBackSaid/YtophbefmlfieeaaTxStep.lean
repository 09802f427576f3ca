/-
  THE CONTRACT OF a table's note of one record, whatever it is; of Note of one.
-/
import Derived.Test.YtophbefmlfieeaaTxPure
import Derived.Test.YtophbefmlfieeaaTxNotes
namespace Go.Proofs.Ytophbefmlfieeaa
open Go.RowKit
/-- A table by what it holds, not where. -/
structure TbA (w W : World) (B t M N : Nat) (A : Int → Option KS) (X : World) : Prop where
  at' : ∃ n m, TbAt X B t M n m ∧ absM m = A ∧ n ≤ N
  below : Below B w X
section
variable {w W : World} {B t M N : Nat} {A : Int → Option KS}
theorem absM_none {m : Int → Option (Nat × KnD)} {i : Int} (h : absM m i = none) : m i = none := by
  unfold absM at h
  simpa using h
theorem absM_some {m : Int → Option (Nat × KnD)} {i : Int} {d : KS} (h : absM m i = some d) : ∃ K k, m i = some (K, k) ∧ k.s = d := by
  unfold absM at h
  obtain ⟨⟨K, k⟩, h1, h2⟩ := Option.map_eq_some_iff.1 h
  exact ⟨K, k, h1, h2⟩
theorem TbAt.lows {X : World} {n : Nat} {m : Int → Option (Nat × KnD)} (h : TbAt X B t M n m) : B ≤ X.heap.size := Nat.le_trans h.lo.1 (Nat.le_of_lt h.lts.1)
/-- What noting a record leaves. -/
def StepP (W : World) (B t M n : Nat) (m : Int → Option (Nat × KnD)) (e : Int) (A' : Int → Option KS) (x : Ending) (w' : World) : Prop :=
  x = .returned (.int .i64 e) ∧ ∃ n' m', n' ≤ n + 1 ∧ TbP W B t M n' m m' w' ∧ absM m' = A'
theorem step_err {n : Nat} {m : Int → Option (Nat × KnD)} {e : Int} {w' : World} (h : TbAt W B t M n m) (hb : Below W.heap.size W w') (hA : A = absM m) : StepP W B t M n m e A (.returned (.int .i64 e)) w' :=
  ⟨rfl, n, m, Nat.le_succ _, TbP.of_below h hb, hA.symm⟩
theorem tbp_mono {Z X : World} {n' : Nat} {m m' : Int → Option (Nat × KnD)} (hb : Below W.heap.size W Z) (g : TbP Z B t M n' m m' X) : TbP W B t M n' m m' X :=
  ⟨g.1, ⟨g.2.1.os.trans hb.os, g.2.1.tape.trans hb.tape, g.2.1.output.trans hb.output, Nat.le_trans hb.size g.2.1.size, fun k hk c => (g.2.1.block k (Nat.lt_of_lt_of_le hk hb.size) c).trans (hb.block k hk)⟩, fun k c => by
    rcases g.2.2 k c with q | q
    · exact .inl q
    · exact .inr (Nat.le_trans hb.size q)⟩
theorem tb_note {n : Nat} {m : Int → Option (Nat × KnD)} (h : TbAt W B t M n m) (home : Int) (k g i p pg u : Int) (key sb sa : ByteArray) (hb ha : Bool) (hi : (Lit.int .i64 i).wf = true) (h1 : key.size ≤ 100) (h2 : sb.size ≤ 100) (h3 : sa.size ≤ 100) (hB : ∀ j d, absM m j = some d → Bnd 100000 d) (hn : n < maxLen) :
    Calls Try.prog 29 #[.pointer (some ⟨t, 0, none⟩), .int .i64 home, .agg #[.int .i64 k, .int .i64 g, .int .i64 i, .int .i64 p, .int .i64 pg, .string key, .bool hb, .string sb, .bool ha, .string sa, .int .i64 u]] W
      (StepP W B t M n m (noteA home (absM m) ⟨k, g, i, p, pg, key, hb, sb, ha, sa, u⟩).1 (noteA home (absM m) ⟨k, g, i, p, pg, key, hb, sb, ha, sa, u⟩).2) := by
  cases hok : Rc.ok ⟨k, g, i, p, pg, key, hb, sb, ha, sa, u⟩
  · have e : noteA home (absM m) ⟨k, g, i, p, pg, key, hb, sb, ha, sa, u⟩ = (1, absM m) := by unfold noteA; rw [hok]; rfl
    rw [e]
    refine (tb_bad h home k g i p pg u key sb sa hb ha hok).mono ?_
    rintro x w' ⟨rfl, hbw⟩
    exact step_err h hbw rfl
  · cases hA : absM m i with
    | none =>
      have hm := absM_none hA
      by_cases hk : k = 1
      · have e : noteA home (absM m) ⟨k, g, i, p, pg, key, hb, sb, ha, sa, u⟩ = (0, updA (absM m) i (newKS home g i)) := by unfold noteA; rw [hok]; simp only [if_true, hA]; rw [if_pos hk]
        rw [e]
        refine (tb_begin h home k g i p pg u key sb sa hb ha hok hi hk hm hn).mono ?_
        rintro x w' ⟨rfl, K, hp⟩
        exact ⟨rfl, n + 1, _, Nat.le_refl _, hp, absM_upd _ _ _ _⟩
      · have e : noteA home (absM m) ⟨k, g, i, p, pg, key, hb, sb, ha, sa, u⟩ = (7, absM m) := by unfold noteA; rw [hok]; simp only [if_true, hA]; rw [if_neg hk]
        rw [e]
        refine (tb_none h home k g i p pg u key sb sa hb ha hok hi hk hm).mono ?_
        rintro x w' ⟨rfl, hbw⟩
        exact step_err h hbw rfl
    | some d =>
      obtain ⟨K, D, hm, rfl⟩ := absM_some hA
      by_cases hk : k = 1
      · have e : noteA home (absM m) ⟨k, g, i, p, pg, key, hb, sb, ha, sa, u⟩ = (8, absM m) := by unfold noteA; rw [hok]; simp only [if_true, hA]; rw [if_pos hk]
        rw [e]
        refine (tb_twice h home k g i p pg u key sb sa hb ha hok hi hk hm).mono ?_
        rintro x w' ⟨rfl, hbw⟩
        exact step_err h hbw rfl
      · have hbd := hB i _ hA
        have hcl : D.cl.length ≤ 100000 := hbd.1
        have hpl : D.pl.length ≤ 100000 := hbd.2
        have hkk := ok_kind hok
        simp only at hkk
        -- an error
        have err : ∀ e0 : Int, ¬ e0 = 0 → noteS D.s ⟨k, g, i, p, pg, key, hb, sb, ha, sa, u⟩ = (e0, D.s) → (∀ X, KnIs X B K D → Calls Try.prog 49 #[.pointer (some ⟨K, 0, none⟩), .agg #[.int .i64 k, .int .i64 g, .int .i64 i, .int .i64 p, .int .i64 pg, .string key, .bool hb, .string sb, .bool ha, .string sa, .int .i64 u]] X fun x w' => x = .returned (.int .i64 e0) ∧ Below X.heap.size X w') →
            Calls Try.prog 29 #[.pointer (some ⟨t, 0, none⟩), .int .i64 home, .agg #[.int .i64 k, .int .i64 g, .int .i64 i, .int .i64 p, .int .i64 pg, .string key, .bool hb, .string sb, .bool ha, .string sa, .int .i64 u]] W
              (StepP W B t M n m (noteA home (absM m) ⟨k, g, i, p, pg, key, hb, sb, ha, sa, u⟩).1 (noteA home (absM m) ⟨k, g, i, p, pg, key, hb, sb, ha, sa, u⟩).2) := by
          intro e0 he0 hS KN
          have e : noteA home (absM m) ⟨k, g, i, p, pg, key, hb, sb, ha, sa, u⟩ = (e0, absM m) := by unfold noteA; rw [hok]; simp only [if_true, hA]; rw [if_neg hk, hS]; simp only; rw [if_neg he0]
          rw [e]
          refine (tb_known h home k g i p pg u key sb sa hb ha hok hi hk hm e0 (fun X w' => Below X.heap.size X w') (fun X _ hX => KN X hX)).mono ?_
          rintro x w' ⟨rfl, X, hX, _, hb2⟩
          exact step_err h (hX.trans (hb2.mono hX.size)) rfl
        -- what goes
        have good : ∀ d' : KnD, noteS D.s ⟨k, g, i, p, pg, key, hb, sb, ha, sa, u⟩ = (0, d'.s) → (∀ X, KnIs X B K D → Calls Try.prog 49 #[.pointer (some ⟨K, 0, none⟩), .agg #[.int .i64 k, .int .i64 g, .int .i64 i, .int .i64 p, .int .i64 pg, .string key, .bool hb, .string sb, .bool ha, .string sa, .int .i64 u]] X (fun x w' => NtP X B K D 0 d' x w')) →
            Calls Try.prog 29 #[.pointer (some ⟨t, 0, none⟩), .int .i64 home, .agg #[.int .i64 k, .int .i64 g, .int .i64 i, .int .i64 p, .int .i64 pg, .string key, .bool hb, .string sb, .bool ha, .string sa, .int .i64 u]] W
              (StepP W B t M n m (noteA home (absM m) ⟨k, g, i, p, pg, key, hb, sb, ha, sa, u⟩).1 (noteA home (absM m) ⟨k, g, i, p, pg, key, hb, sb, ha, sa, u⟩).2) := by
          intro d' hS KN
          have e : noteA home (absM m) ⟨k, g, i, p, pg, key, hb, sb, ha, sa, u⟩ = (0, updA (absM m) i d'.s) := by unfold noteA; rw [hok]; simp only [if_true, hA]; rw [if_neg hk, hS]; simp only [if_true]
          rw [e]
          refine (tb_known h home k g i p pg u key sb sa hb ha hok hi hk hm 0 (fun X w' => ∃ x, NtP X B K D 0 d' x w') (fun X _ hX => (KN X hX).mono fun x w' hp => ⟨hp.1, x, hp⟩)).mono ?_
          rintro x w' ⟨rfl, X, hX, hT, y, hN⟩
          obtain ⟨cv, pv, hp⟩ := hT.noted hm hN
          exact ⟨rfl, n, _, Nat.le_succ _, tbp_mono hX hp, absM_upd _ _ _ _⟩
        by_cases hst : D.st = 1
        · by_cases hp : p = D.last
          · by_cases k2 : k = 2
            · subst k2
              exact good { D with last := g, cl := D.cl ++ [⟨2, g, i, p, pg, key, hb, sb, ha, sa, u⟩] } (by unfold noteS; rw [if_pos (show D.s.st = 1 from hst), if_pos (show p = D.s.last from hp), if_pos rfl]; rfl) (fun X hX => kn_update hX hst g i p pg u key sb sa hb ha hp (by omega) (by omega) (by omega) hcl)
            · by_cases k3 : k = 3
              · subst k3
                cases htk : tkb D.cl ⟨3, g, i, p, pg, key, hb, sb, ha, sa, u⟩
                · refine err 1 (by decide) ?_ (fun X hX => kn_clr_no hX g i p pg u key sb sa hb ha hst hp hcl htk)
                  unfold noteS
                  rw [if_pos (show D.s.st = 1 from hst), if_pos (show p = D.s.last from hp), if_neg (by simp), if_pos rfl, show D.s.cl = D.cl from rfl, htk]
                  rfl
                · obtain ⟨l, c, hz, _⟩ := tkb_true htk
                  have hdl : D.cl.dropLast = l := by rw [hz]; simp
                  refine good { D with last := g, cl := l, pl := cutPl D.pl (l.length : Int) } ?_ (fun X hX => (kn_clr_yes hX g i p pg u key sb sa hb ha hst hp hcl hpl hz htk).mono ?_)
                  · unfold noteS
                    rw [if_pos (show D.s.st = 1 from hst), if_pos (show p = D.s.last from hp), if_neg (by simp), if_pos rfl, show D.s.cl = D.cl from rfl, htk, hdl]
                    rfl
                  · rintro x w' ⟨j, q1, q2, q3⟩
                    rw [cutPl_of q1 q2] at q3
                    exact q3
              · by_cases k4 : k = 4
                · subst k4
                  exact good { D with last := g, pl := D.pl ++ [(u, (D.cl.length : Int))] } (by unfold noteS; rw [if_pos (show D.s.st = 1 from hst), if_pos (show p = D.s.last from hp), if_neg (by simp), if_neg (by simp), if_pos rfl]; rfl) (fun X hX => kn_save hX g i p pg u key sb sa hb ha hst hp ⟨hcl, hpl⟩)
                · by_cases k5 : k = 5
                  · subst k5
                    exact good { D with last := g, st := 2 } (by unfold noteS; rw [if_pos (show D.s.st = 1 from hst), if_pos (show p = D.s.last from hp), if_neg (by simp), if_neg (by simp), if_neg (by simp), if_pos rfl]; rfl) (fun X hX => kn_commit hX g i p pg u key sb sa hb ha hst hp ⟨hcl, hpl⟩)
                  · obtain rfl : k = 6 := by omega
                    exact good { D with last := g, st := 3 } (by unfold noteS; rw [if_pos (show D.s.st = 1 from hst), if_pos (show p = D.s.last from hp), if_neg (by simp), if_neg (by simp), if_neg (by simp), if_neg (by simp)]; rfl) (fun X hX => kn_end hX g i p pg u key sb sa hb ha hst hp ⟨hcl, hpl⟩)
          · exact err 1 (by decide) (by unfold noteS; rw [if_pos (show D.s.st = 1 from hst), if_neg (show ¬ p = D.s.last from hp)]) (fun X hX => kn_prev hX k g i p pg u key sb sa hb ha hst hp)
        · exact err 12 (by decide) (by unfold noteS; rw [if_neg (show ¬ D.s.st = 1 from hst)]) (fun X hX => kn_state hX k g i p pg u key sb sa hb ha hst)
end
end Go.Proofs.Ytophbefmlfieeaa
