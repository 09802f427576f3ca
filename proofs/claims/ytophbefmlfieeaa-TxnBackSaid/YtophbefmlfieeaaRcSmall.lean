/-
  THE CONTRACTS OF record.within, changes, numbered, undone.
-/
import Derived.Test.YtophbefmlfieeaaRows
import Derived.ProofKit
import Derived.OpenShut
import Derived.WalkSpells
import Derived.Lib.SmallJoins
import Derived.Lib.Hide
import Derived.Laws.StructEq
namespace Go.Proofs.Ytophbefmlfieeaa
open Go.RowKit

theorem within_any (n l g : Int) (w : World) :
    Calls Try.prog 60 #[.int .i64 n, .int .i64 l, .int .i64 g] w fun e w' => e = .returned (.bool (decide (l ≤ n) && decide (n ≤ g))) ∧ w = w' := by
  by_cases h : l ≤ n
  · go_enter Try.func60, Try.ntmps60
    go_wp2
    go_ret
    exact ⟨by simp [h], rfl⟩
  · go_enter Try.func60, Try.ntmps60
    go_wp2
    go_ret
    exact ⟨by have h' : decide (l ≤ n) = false := by simpa using h
              rw [h']; rfl, rfl⟩

theorem changes_any (k : Int) (w : World) :
    Calls Try.prog 73 #[.int .i64 k] w fun e w' => e = .returned (.bool (k == 2 || k == 3)) ∧ w = w' := by
  by_cases h : k = 2
  · subst h
    go_enter Try.func73, Try.ntmps73
    go_wp2
    go_ret
    exact ⟨rfl, rfl⟩
  · have h' : (k == 2) = false := by rw [beq_eq_false_iff_ne]; exact h
    go_enter Try.func73, Try.ntmps73
    go_wp2
    go_ret
    exact ⟨by simp [h'], rfl⟩

def rcNum (k g t p : Int) : Bool := (decide (1 ≤ t) && decide (t ≤ 2147483647)) && (decide (1 ≤ g) && decide (g ≤ 4611686018427387903)) && (decide (0 ≤ p) && decide (p ≤ g - 1)) && ((p == 0) == (k == 1))
theorem numbered_any (k g t p pg u : Int) (key sb sa : ByteArray) (hb ha : Bool) (w : World) :
    Calls Try.prog 61 #[.agg #[.int .i64 k, .int .i64 g, .int .i64 t, .int .i64 p, .int .i64 pg, .string key, .bool hb, .string sb, .bool ha, .string sa, .int .i64 u]] w
      fun e w' => e = .returned (.bool (rcNum k g t p)) ∧ Below w.heap.size w w' := by
  have H1 := fun W => within_any t 1 2147483647 W
  have H2 := fun W => within_any g 1 4611686018427387903 W
  have H3 := fun W => within_any p 0 (g - 1) W
  have HR : Hid (rcNum k g t p = ((decide (1 ≤ t) && decide (t ≤ 2147483647)) && (decide (1 ≤ g) && decide (g ≤ 4611686018427387903)) && (decide (0 ≤ p) && decide (p ≤ g - 1)) && ((p == 0) == (k == 1)))) := rfl
  have hgw : (decide (1 ≤ g) && decide (g ≤ 4611686018427387903)) = true → IntKind.i64.wrap (g - 1) = g - 1 := fun h => by
    simp only [Bool.and_eq_true, decide_eq_true_eq] at h
    rw [IntKind.wrap_i64]; omega
  generalize (decide (1 ≤ t) && decide (t ≤ 2147483647)) = b1 at H1 HR
  generalize (decide (1 ≤ g) && decide (g ≤ 4611686018427387903)) = b2 at H2 HR hgw
  generalize (decide (0 ≤ p) && decide (p ≤ g - 1)) = b3 at H3 HR
  cases b1
  · go_enter Try.func61, Try.ntmps61
    go_wp2_with fail
    refine (H1 _).mono ?_
    rintro x w1 ⟨rfl, rfl⟩
    go_wp2
    go_ret
    exact ⟨by rw [HR.out]; rfl, (Below.refl _ _).alloc (Nat.le_refl _) _⟩
  · cases b2
    · go_enter Try.func61, Try.ntmps61
      go_wp2_with fail
      refine (H1 _).mono ?_
      rintro x w1 ⟨rfl, rfl⟩
      go_wp2_with fail
      refine (H2 _).mono ?_
      rintro x w1 ⟨rfl, rfl⟩
      go_wp2
      go_ret
      exact ⟨by rw [HR.out]; rfl, (Below.refl _ _).alloc (Nat.le_refl _) _⟩
    · have hgw := hgw rfl
      cases b3
      · go_enter Try.func61, Try.ntmps61
        go_wp2_with fail
        refine (H1 _).mono ?_
        rintro x w1 ⟨rfl, rfl⟩
        go_wp2_with fail
        refine (H2 _).mono ?_
        rintro x w1 ⟨rfl, rfl⟩
        go_wp2_with fail
        refine (H3 _).mono ?_
        rintro x w1 ⟨rfl, rfl⟩
        go_wp2
        go_ret
        exact ⟨by rw [HR.out]; rfl, (Below.refl _ _).alloc (Nat.le_refl _) _⟩
      · go_enter Try.func61, Try.ntmps61
        go_wp2_with fail
        refine (H1 _).mono ?_
        rintro x w1 ⟨rfl, rfl⟩
        go_wp2_with fail
        refine (H2 _).mono ?_
        rintro x w1 ⟨rfl, rfl⟩
        go_wp2_with fail
        refine (H3 _).mono ?_
        rintro x w1 ⟨rfl, rfl⟩
        go_wp2
        go_ret
        exact ⟨by rw [HR.out]; rfl, (Below.refl _ _).alloc (Nat.le_refl _) _⟩

def rcUndone (k p u : Int) : Bool := if k = 3 then decide (1 ≤ u) && decide (u ≤ p) else if k = 4 then decide (0 ≤ u) && decide (u ≤ 255) else u == 0
theorem undone_any (k g t p pg u : Int) (key sb sa : ByteArray) (hb ha : Bool) (w : World) :
    Calls Try.prog 63 #[.agg #[.int .i64 k, .int .i64 g, .int .i64 t, .int .i64 p, .int .i64 pg, .string key, .bool hb, .string sb, .bool ha, .string sa, .int .i64 u]] w
      fun e w' => e = .returned (.bool (rcUndone k p u)) ∧ Below w.heap.size w w' := by
  have H1 := fun W => within_any u 1 p W
  have H2 := fun W => within_any u 0 255 W
  by_cases h3 : k = 3
  · subst h3
    have HR : Hid (rcUndone 3 p u = (decide (1 ≤ u) && decide (u ≤ p))) := rfl
    go_enter Try.func63, Try.ntmps63
    go_wp2_with fail
    refine (H1 _).mono ?_
    rintro x w1 ⟨rfl, rfl⟩
    go_wp2
    go_ret
    exact ⟨by rw [HR.out]; rfl, (Below.refl _ _).alloc (Nat.le_refl _) _⟩
  · have h3' : (k == 3) = false := by rw [beq_eq_false_iff_ne]; exact h3
    by_cases h4 : k = 4
    · subst h4
      have HR : Hid (rcUndone 4 p u = (decide (0 ≤ u) && decide (u ≤ 255))) := rfl
      go_enter Try.func63, Try.ntmps63
      go_wp2_with fail
      refine (H2 _).mono ?_
      rintro x w1 ⟨rfl, rfl⟩
      go_wp2
      go_ret
      exact ⟨by rw [HR.out]; rfl, (Below.refl _ _).alloc (Nat.le_refl _) _⟩
    · have h4' : (k == 4) = false := by rw [beq_eq_false_iff_ne]; exact h4
      have HR : Hid (rcUndone k p u = (u == 0)) := Lib.hid (by unfold rcUndone; rw [if_neg h3, if_neg h4])
      go_enter Try.func63, Try.ntmps63
      go_wp2
      go_ret
      exact ⟨by rw [HR.out]; rfl, (Below.refl _ _).alloc (Nat.le_refl _) _⟩

theorem keyOne_any (s : ByteArray) (w : World) :
    Calls Try.prog 90 #[.string s] w fun e w' => e = .returned (.bool (decide ((1 : Int) ≤ (s.size : Int)) && decide ((s.size : Int) ≤ 8))) ∧ w = w' := by
  have H1 := fun W => within_any (s.size : Int) 1 8 W
  go_enter Try.func90, Try.ntmps90
  go_wp2_with fail
  refine (H1 _).mono ?_
  rintro x w1 ⟨rfl, rfl⟩
  go_wp2
  go_ret
  exact ⟨rfl, rfl⟩

def vlOk (h : Bool) (s : ByteArray) : Bool := (h && decide ((s.size : Int) ≤ 16)) || (!h && decide (s.toList = []))
theorem valOne_any (h : Bool) (s : ByteArray) (w : World) :
    Calls Try.prog 92 #[.agg #[.bool h, .string s]] w fun e w' => e = .returned (.bool (vlOk h s)) ∧ Below w.heap.size w w' := by
  cases h
  · by_cases hs : s.toList = []
    · have hv : vlOk false s = true := by simp [vlOk, hs]
      go_enter Try.func92, Try.ntmps92
      go_wp2
      go_ret
      exact ⟨by first | (rw [hv]; rfl) | rfl, (Below.refl _ _).alloc (Nat.le_refl _) _⟩
    · have hv : vlOk false s = false := by simp [vlOk, hs]
      go_enter Try.func92, Try.ntmps92
      go_wp2
      go_ret
      exact ⟨by first | (rw [hv]; rfl) | rfl, (Below.refl _ _).alloc (Nat.le_refl _) _⟩
  · by_cases hs : (s.size : Int) ≤ 16
    · have hv : vlOk true s = true := by simp [vlOk]; omega
      go_enter Try.func92, Try.ntmps92
      go_wp2
      go_ret
      exact ⟨by first | (rw [hv]; rfl) | rfl, (Below.refl _ _).alloc (Nat.le_refl _) _⟩
    · have hv : vlOk true s = false := by simp [vlOk]; omega
      have hs : (16 : Int) < (s.size : Int) := by omega
      go_enter Try.func92, Try.ntmps92
      go_wp2
      go_ret
      exact ⟨by first | (rw [hv]; rfl) | rfl, (Below.refl _ _).alloc (Nat.le_refl _) _⟩
end Go.Proofs.Ytophbefmlfieeaa
