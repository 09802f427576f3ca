/-
  THE CONTRACT OF quadrigaref04.Right: for any record.
-/
import Derived.Test.YtlggbbaigcnpjaaDoorRcRefPage2
import Derived.Test.YtlggbbaigcnpjaaDoorRcRefPage3
import Derived.Test.YtlggbbaigcnpjaaDoorRcRefPlain
namespace Go.Proofs.YtlggbbaigcnpjaaDoor
open Go.RowKit

theorem refRight_any (k g t p pg u : Int) (key sb sa : ByteArray) (hb ha : Bool) (w : World) :
    Calls Tryd.prog 10 #[.agg #[.int .i64 k, .int .i64 g, .int .i64 t, .int .i64 p, .int .i64 pg, .string key, .bool hb, .string sb, .bool ha, .string sa, .int .i64 u]] w
      fun e w' => e = .returned (.bool (rcOk k g t p pg key hb sb ha sa u)) ∧ Below w.heap.size w w' := by
  by_cases h : ((decide (1 ≤ k) && decide (k ≤ 6)) && rcNum k g t p) = true
  · have hr := h
    unfold rcNum at hr
    simp only [Bool.and_eq_true, decide_eq_true_eq, beq_iff_eq] at hr
    obtain ⟨⟨h7, h8⟩, ⟨⟨⟨h1, h2⟩, ⟨h3, h4⟩⟩, h5, h6⟩, h9⟩ := hr
    have hV : rcOk k g t p pg key hb sb ha sa u = (rcChg k pg key hb sb ha sa && rcUndone k p u && rcSame k pg key hb sb ha sa) := by
      unfold rcOk; rw [h, Bool.true_and]
    rw [hV]
    by_cases e2 : k = 2
    · subst e2
      have hp : ¬ p = 0 := fun e => by rw [e] at h9; exact absurd h9 (by decide)
      refine (refRight_2 g t p pg u key sb sa hb ha w h1 h2 h3 h4 (by omega) (by omega)).mono ?_
      rintro e w' ⟨rfl, hb⟩
      refine ⟨?_, hb⟩
      have : rcUndone 2 p u = (u == 0) := rfl
      rw [this]
      congr 2
      simp [rcChg, rcSame]
    · by_cases e3 : k = 3
      · subst e3
        have hp : ¬ p = 0 := fun e => by rw [e] at h9; exact absurd h9 (by decide)
        refine (refRight_3 g t p pg u key sb sa hb ha w h1 h2 h3 h4 (by omega) (by omega)).mono ?_
        rintro e w' ⟨rfl, hb⟩
        refine ⟨?_, hb⟩
        have : rcUndone 3 p u = (decide (1 ≤ u) && decide (u ≤ p)) := rfl
        rw [this]
        congr 2
        simp [rcChg, rcSame]
      · have hk : (k == 2 || k == 3) = false := by simp [e2, e3]
        refine (refRight_plain k g t p pg u key sb sa hb ha w h1 h2 h3 h4 h5 (by omega) h7 h8 h9 hk).mono ?_
        rintro e w' ⟨rfl, hb⟩
        refine ⟨?_, hb⟩
        congr 2
        unfold rcChg rcSame noneElse
        rw [hk, Bool.not_false, Bool.true_or, Bool.true_and, Bool.false_or, Bool.and_comm]
  · have h : ((decide (1 ≤ k) && decide (k ≤ 6)) && rcNum k g t p) = false := by simpa using h
    refine (refRight_out k g t p pg u key sb sa hb ha w h).mono ?_
    rintro e w' ⟨rfl, hb⟩
    refine ⟨?_, hb⟩
    congr 2
    unfold rcOk
    rw [h]
    rfl
end Go.Proofs.YtlggbbaigcnpjaaDoor
