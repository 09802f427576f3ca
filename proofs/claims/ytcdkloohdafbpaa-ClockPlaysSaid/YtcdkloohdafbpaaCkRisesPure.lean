/-
  TICKS RISE: the pure part.
-/
import Derived.Test.YtcdkloohdafbpaaCkAll
import Derived.Test.YtcdkloohdafbpaaCkRows
namespace Go.Proofs.Ytcdkloohdafbpaa
open Go.RowKit
/-- What the three rows say of a clock of eight streams. -/
structure RisesP (k : Nat) (c : Clk) (ls lp lt : List (Int × Int)) : Prop where
  ln : c.ss.length = 8
  ns : ls.length ≤ k
  np : lp.length ≤ k
  nt : lt.length ≤ k
  fs : ∀ i : Nat, i < 8 → findL ls i = c.ss.getD i 0
  fp : ∀ i, findL lp i = c.fp i
  ft : ∀ i, findL lt i = c.ft i
  bs : ∀ i : Nat, c.ss.getD i 0 ≤ k
  bp : ∀ i, c.fp i ≤ k
  bt : ∀ i, c.ft i ≤ k
theorem RisesP.new : RisesP 0 (Clk.new 8) [] [] [] :=
  ⟨List.length_replicate, Nat.le_refl _, Nat.le_refl _, Nat.le_refl _, fun i hi => by
    match i, hi with
    | 0, _ => rfl
    | 1, _ => rfl
    | 2, _ => rfl
    | 3, _ => rfl
    | 4, _ => rfl
    | 5, _ => rfl
    | 6, _ => rfl
    | 7, _ => rfl, fun _ => rfl, fun _ => rfl, fun i => by
    show (List.replicate 8 (0 : Int)).getD i 0 ≤ _
    rw [List.getD_eq_getElem?_getD, List.getElem?_replicate]; split <;> simp, fun _ => by show (0 : Int) ≤ _; omega, fun _ => by show (0 : Int) ≤ _; omega⟩
theorem updP_at (f : Int → Int) (p z i : Int) : updP f p z i = if 0 ≤ p ∧ i = p then z else f i := by
  unfold updP updI
  by_cases h : 0 ≤ p
  · by_cases h2 : i = p <;> simp [h, h2]
  · simp [h]
theorem RisesP.tick {k : Nat} {c : Clk} {ls lp lt : List (Int × Int)} (h : RisesP k c ls lp lt) (q : Nat) (hq : q < 8) (p t : Int) (hk : k ≤ 60) :
    ∃ n : Int, c.N 8 q p t = n ∧ c.E 8 q p t = 0 ∧ findL ls q < n ∧ findL lp p < n ∧ findL lt t < n ∧ RisesP (k + 1) (c.tick 8 q p t) (withL ls q n) (withL lp p n) (withL lt t n) := by
  have hb : hasB 8 q = true := hasB_iff.2 ⟨by omega, by omega⟩
  have hs : streamV 8 c.ss q = c.ss.getD q 0 := by unfold streamV; rw [if_pos hb, Int.toNat_natCast]
  have b1 := h.bs q
  have b2 := h.bp p
  have b3 := h.bt t
  have hn : nextV 8 c.ss c.fp c.ft q p t = max (max (c.ss.getD q 0) (c.fp p)) (c.ft t) + 1 := by unfold nextV; rw [hs]
  have hle : nextV 8 c.ss c.fp c.ft q p t ≤ 61 := by rw [hn]; omega
  have hlk : nextV 8 c.ss c.fp c.ft q p t ≤ ((k + 1 : Nat) : Int) := by rw [hn]; omega
  have ho : okT 8 c q p t = true := by unfold okT; rw [hb, Bool.true_and, decide_eq_true_iff]; omega
  have e1 := h.fs q hq
  have e2 := h.fp p
  have e3 := h.ft t
  refine ⟨nextV 8 c.ss c.fp c.ft q p t, by unfold Clk.N; rw [if_pos ho], ?_, by rw [hn, e1]; omega, by rw [hn, e2]; omega, by rw [hn, e3]; omega, ?_⟩
  · unfold Clk.E; rw [if_pos hb, if_pos (by omega)]
  · unfold Clk.tick; rw [if_pos ho, Int.toNat_natCast]
    generalize nextV 8 c.ss c.fp c.ft q p t = n at *
    have hset : ∀ i : Nat, (c.ss.set q n).getD i 0 = if i = q then n else c.ss.getD i 0 := fun i => by
      simp only [List.getD_eq_getElem?_getD, List.getElem?_set]
      by_cases e : q = i
      · subst e; simp [h.ln, hq]
      · rw [if_neg e, if_neg (fun x => e x.symm)]
    refine ⟨by simp [h.ln], ?_, ?_, ?_, fun i hi => ?_, fun i => ?_, fun i => ?_, fun i => ?_, fun i => ?_, fun i => ?_⟩
    · have := withL_len ls q n; have := h.ns; omega
    · have := withL_len lp p n; have := h.np; omega
    · have := withL_len lt t n; have := h.nt; omega
    · show findL (withL ls q n) i = (c.ss.set q n).getD i 0
      rw [findL_with, hset]
      by_cases e : i = q
      · rw [if_pos ⟨by omega, by omega⟩, if_pos e]
      · rw [if_neg (by omega), if_neg e]; exact h.fs i hi
    · show findL (withL lp p n) i = updP c.fp p n i
      rw [findL_with, updP_at, h.fp]
    · show findL (withL lt t n) i = updP c.ft t n i
      rw [findL_with, updP_at, h.ft]
    · show (c.ss.set q n).getD i 0 ≤ _
      rw [hset]; have := h.bs i; split <;> omega
    · show updP c.fp p n i ≤ _
      rw [updP_at]; have := h.bp i; split <;> omega
    · show updP c.ft t n i ≤ _
      rw [updP_at]; have := h.bt i; split <;> omega
theorem RisesP.next {k : Nat} {c : Clk} {ls lp lt : List (Int × Int)} (h : RisesP k c ls lp lt) : RisesP (k + 1) c ls lp lt :=
  ⟨h.ln, Nat.le_succ_of_le h.ns, Nat.le_succ_of_le h.np, Nat.le_succ_of_le h.nt, h.fs, h.fp, h.ft, fun i => by have := h.bs i; omega, fun i => by have := h.bp i; omega, fun i => by have := h.bt i; omega⟩
theorem RisesP.sees_no {k : Nat} {c : Clk} {ls lp lt : List (Int × Int)} (h : RisesP k c ls lp lt) (t p : Int) (hp : ¬ 0 ≤ p) : RisesP (k + 1) (c.sees t p) ls lp lt := by
  unfold Clk.sees; rw [if_neg (by omega)]; exact h.next
theorem RisesP.sees {k : Nat} {c : Clk} {ls lp lt : List (Int × Int)} (h : RisesP k c ls lp lt) (t p : Int) (hp : 0 ≤ p) : RisesP (k + 1) (c.sees t p) ls lp (withL lt t (max (findL lt t) (findL lp p))) := by
  rw [h.ft, h.fp]
  have h' := h.next
  have b2 := h'.bp p
  have b3 := h'.bt t
  unfold Clk.sees
  by_cases ht : 0 ≤ t
  · rw [if_pos ⟨ht, hp⟩]
    refine ⟨h'.ln, h'.ns, h'.np, by have := withL_len lt t (max (c.ft t) (c.fp p)); have := h.nt; omega, h'.fs, h'.fp, fun i => ?_, h'.bs, h'.bp, fun i => ?_⟩
    · show findL (withL lt t _) i = updI c.ft t _ i
      rw [findL_with, h.ft]; unfold updI
      by_cases e : i = t <;> simp [e, ht]
    · show updI c.ft t _ i ≤ _
      unfold updI; have := h'.bt i; split <;> omega
  · rw [if_neg (by omega)]
    unfold withL; rw [if_pos (by omega)]; exact h'
theorem RowT.fr {W W' : World} {B C S P T : Nat} {v : Value} {l : List (Int × Int)} (h : RowT W B v l) (hf : Fr C S P T W W') (hC : C < B) (hS : S < B) (hP : P < B) (hT : T < B) : RowT W' B v l := by
  refine ⟨h.1, ?_⟩
  rcases h.2 with hn | ⟨g, cap, cur, rfl, hb, hgg, rest⟩
  · exact .inl hn
  · exact .inr ⟨g, cap, cur, rfl, hb, (hf.block g (Array.getElem?_eq_some_iff.1 hgg).1 (by omega) (by omega) (by omega) (by omega)).trans hgg, rest⟩
end Go.Proofs.Ytcdkloohdafbpaa
