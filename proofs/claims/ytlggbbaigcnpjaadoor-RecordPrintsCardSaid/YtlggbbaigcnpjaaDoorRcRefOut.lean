/-
  THE CONTRACT OF quadrigaref04.Right: the same judge.
-/
import Derived.Test.YtlggbbaigcnpjaaDoorRcRefSmall
namespace Go.Proofs.YtlggbbaigcnpjaaDoor
open Go.RowKit

theorem refRight_out (k g t p pg u : Int) (key sb sa : ByteArray) (hb ha : Bool) (w : World) (h : ((decide (1 ≤ k) && decide (k ≤ 6)) && rcNum k g t p) = false) :
    Calls Tryd.prog 10 #[.agg #[.int .i64 k, .int .i64 g, .int .i64 t, .int .i64 p, .int .i64 pg, .string key, .bool hb, .string sb, .bool ha, .string sa, .int .i64 u]] w fun e w' => e = .returned (.bool false) ∧ Below w.heap.size w w' := by
  have hor : k < 1 ∨ (¬ k < 1) ∧ (6 < k ∨ (¬ 6 < k) ∧ (t < 1 ∨ (¬ t < 1) ∧ (2147483647 < t ∨ (¬ 2147483647 < t) ∧ (g < 1 ∨ (¬ g < 1) ∧ (4611686018427387903 < g ∨ (¬ 4611686018427387903 < g) ∧ (p < 0 ∨ (¬ p < 0) ∧ (g ≤ p ∨ (¬ g ≤ p) ∧ ((p == 0) = true ∧ (k == 1) = false ∨ (p == 0) = false ∧ (k == 1) = true)))))))) := by
    by_cases a0 : k < 1
    · exact .inl a0
    by_cases a1 : 6 < k
    · exact .inr ⟨a0, .inl a1⟩
    by_cases a2 : t < 1
    · exact .inr ⟨a0, .inr ⟨a1, .inl a2⟩⟩
    by_cases a3 : 2147483647 < t
    · exact .inr ⟨a0, .inr ⟨a1, .inr ⟨a2, .inl a3⟩⟩⟩
    by_cases a4 : g < 1
    · exact .inr ⟨a0, .inr ⟨a1, .inr ⟨a2, .inr ⟨a3, .inl a4⟩⟩⟩⟩
    by_cases a5 : 4611686018427387903 < g
    · exact .inr ⟨a0, .inr ⟨a1, .inr ⟨a2, .inr ⟨a3, .inr ⟨a4, .inl a5⟩⟩⟩⟩⟩
    by_cases a6 : p < 0
    · exact .inr ⟨a0, .inr ⟨a1, .inr ⟨a2, .inr ⟨a3, .inr ⟨a4, .inr ⟨a5, .inl a6⟩⟩⟩⟩⟩⟩
    by_cases a7 : g ≤ p
    · exact .inr ⟨a0, .inr ⟨a1, .inr ⟨a2, .inr ⟨a3, .inr ⟨a4, .inr ⟨a5, .inr ⟨a6, .inl a7⟩⟩⟩⟩⟩⟩⟩
    refine .inr ⟨a0, .inr ⟨a1, .inr ⟨a2, .inr ⟨a3, .inr ⟨a4, .inr ⟨a5, .inr ⟨a6, .inr ⟨a7, ?_⟩⟩⟩⟩⟩⟩⟩⟩
    have e1 : decide (1 ≤ k) = true := decide_eq_true (by omega)
    have e2 : decide (k ≤ 6) = true := decide_eq_true (by omega)
    have e3 : decide (1 ≤ t) = true := decide_eq_true (by omega)
    have e4 : decide (t ≤ 2147483647) = true := decide_eq_true (by omega)
    have e5 : decide (1 ≤ g) = true := decide_eq_true (by omega)
    have e6 : decide (g ≤ 4611686018427387903) = true := decide_eq_true (by omega)
    have e7 : decide (0 ≤ p) = true := decide_eq_true (by omega)
    have e8 : decide (p ≤ g - 1) = true := decide_eq_true (by omega)
    unfold rcNum at h
    rw [e1, e2, e3, e4, e5, e6, e7, e8] at h
    clear e1 e2 e3 e4 e5 e6 e7 e8
    cases h0 : (p == 0) <;> cases h1 : (k == 1) <;> rw [h0, h1] at h <;> first | exact .inl ⟨rfl, rfl⟩ | exact .inr ⟨rfl, rfl⟩ | exact absurd h (by decide)
  clear h
  have HB : ∀ o, Below w.heap.size w (w.alloc o) := fun o => bw_alloc (Below.refl w.heap.size w)
  rcases hor with a0 | ⟨a0, (a1 | ⟨a1, (a2 | ⟨a2, (a3 | ⟨a3, (a4 | ⟨a4, (a5 | ⟨a5, (a6 | ⟨a6, (a7 | ⟨a7, (⟨c1, c2⟩ | ⟨c1, c2⟩)⟩)⟩)⟩)⟩)⟩)⟩)⟩)⟩ <;>
  · go_enter Tryd.func10, Tryd.ntmps10
    go_wp2
    go_ret
    exact ⟨rfl, HB _⟩
end Go.Proofs.YtlggbbaigcnpjaaDoor
