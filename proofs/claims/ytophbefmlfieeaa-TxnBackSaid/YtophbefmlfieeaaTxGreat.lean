/-
  THE CONTRACT OF quadrigaref17.Great, at one record.
-/
import Derived.Test.YtophbefmlfieeaaTxIdsNil
namespace Go.Proofs.Ytophbefmlfieeaa
open Go.RowKit
set_option maxRecDepth 100000 in
set_option maxHeartbeats 4000000 in
theorem great17_no {W : World} {q : Nat} {k g t p pg u : Int} {key sb sa : ByteArray} {hb ha : Bool} (h : R11 W q ⟨k, g, t, p, pg, key, hb, sb, ha, sa, u⟩) (h1 : key.size ≤ 100) (h2 : sb.size ≤ 100) (h3 : sa.size ≤ 100) :
    Calls Try.prog 19 #[.slice (some ⟨q, 0, none⟩) 1 1] W fun x w' => x = .returned (.bool false) ∧ Below W.heap.size W w' := by
  obtain ⟨c0, c1, c2, c3, c4, c5, c6, c7, c8, c9, c10⟩ := h.all
  have g1 : ¬ (100 : Int) < (key.size : Int) := by omega
  have g2 : ¬ (100 : Int) < (sb.size : Int) := by omega
  have g3 : ¬ (100 : Int) < (sa.size : Int) := by omega
  clear h1 h2 h3 h
  go_enter Try.func19, Try.ntmps19
  go_wp2
  go_loopw [3] (fun i wr => ∃ n : Nat, n ≤ 1 ∧ i = .int .i64 n ∧ wr = W) (fun i _ => 1 - (intOf i).toNat)
  case atStart => exact ⟨0, by omega, rfl, rfl⟩
  case round =>
    obtain ⟨n, hn, rfl, rfl⟩ := hrel
    by_cases hz : n = 0
    · subst hz
      go_wp2
      go_roundw
      case rel => first | exact ⟨1, by omega, by go_num, trivial⟩ | exact ⟨1, by omega, by go_num⟩
      case measure => simp [intOf]
    · obtain rfl : n = 1 := by omega
      go_wp2
      go_ret
      exact ⟨rfl, Below.refl _ _⟩
set_option maxRecDepth 100000 in
set_option maxHeartbeats 4000000 in
theorem great17_yes {W : World} {q : Nat} {k g t p pg u : Int} {key sb sa : ByteArray} {hb ha : Bool} (h : R11 W q ⟨k, g, t, p, pg, key, hb, sb, ha, sa, u⟩) (h1 : ¬ (key.size ≤ 100 ∧ sb.size ≤ 100 ∧ sa.size ≤ 100)) :
    Calls Try.prog 19 #[.slice (some ⟨q, 0, none⟩) 1 1] W fun x w' => x = .returned (.bool true) ∧ Below W.heap.size W w' := by
  obtain ⟨c0, c1, c2, c3, c4, c5, c6, c7, c8, c9, c10⟩ := h.all
  clear h
  go_enter Try.func19, Try.ntmps19
  go_wp2
  go_loopw [3] (fun i wr => i = .int .i64 0 ∧ wr = W) (fun _ _ => 0)
  case atStart => exact ⟨rfl, rfl⟩
  case round =>
    obtain ⟨rfl, rfl⟩ := hrel
    by_cases g1 : (100 : Int) < (key.size : Int)
    · go_wp2
      go_ret
      exact ⟨rfl, Below.refl _ _⟩
    · by_cases g2 : (100 : Int) < (sb.size : Int)
      · go_wp2
        go_ret
        exact ⟨rfl, Below.refl _ _⟩
      · have g3 : (100 : Int) < (sa.size : Int) := by omega
        go_wp2
        go_ret
        exact ⟨rfl, Below.refl _ _⟩
end Go.Proofs.Ytophbefmlfieeaa
