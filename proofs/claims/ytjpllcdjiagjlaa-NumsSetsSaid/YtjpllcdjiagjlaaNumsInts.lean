/-
  NUMBERS AT A SLICE; THE CONTRACT OF nums.Most.
-/
import Derived.Test.YtjpllcdjiagjlaaChecked
import Derived.WalkKit
import Derived.WalkLawsBesides
import Derived.Lib.Hide
import Derived.OpenShut
namespace Go.Proofs.Ytjpllcdjiagjlaa
open Go.RowKit

/-- A slice of ints that reads as these numbers. -/
def IntsAt (w : World) (a : Option Addr) (l : List Int) : Prop :=
  l = [] ∨ ∃ b off, a = some ⟨b, off, none⟩ ∧ ∀ i, i < l.length → w.cell? ⟨b, off + i, none⟩ = some (.int .i64 (l.getD i 0))
def Ints64 (l : List Int) : Prop := ∀ n ∈ l, (Lit.int .i64 n).wf = true

theorem cell_lt {w : World} {b off : Nat} {v : Value} (h : w.cell? ⟨b, off, none⟩ = some v) : b < w.heap.size := by
  rcases Nat.lt_or_ge b w.heap.size with h1 | h1
  · exact h1
  · simp [World.cell?, Array.getElem?_eq_none h1] at h
theorem IntsAt.below {w w' : World} {a : Option Addr} {l : List Int} (h : IntsAt w a l) (hb : Below w.heap.size w w') : IntsAt w' a l := by
  rcases h with h | ⟨b, off, e, h⟩
  · exact .inl h
  · refine .inr ⟨b, off, e, fun i hi => ?_⟩
    have h0 := cell_lt (h i hi)
    rw [hb.cell (p := ⟨b, off + i, none⟩) h0]; exact h i hi
theorem IntsAt.cell {w : World} {a : Option Addr} {l : List Int} (h : IntsAt w a l) {k : Nat} (hk : k < l.length) : ∃ b off, a = some ⟨b, off, none⟩ ∧ w.cell? ⟨b, off + k, none⟩ = some (.int .i64 (l.getD k 0)) := by
  rcases h with rfl | ⟨b, off, e, h⟩
  · simp at hk
  · exact ⟨b, off, e, h k hk⟩
theorem take_one (l : List Int) (k : Nat) (h : k < l.length) : l.take (k + 1) = l.take k ++ [l.getD k 0] := by
  rw [List.take_succ_eq_append_getElem h]; simp [List.getD_eq_getElem?_getD, h]
theorem ret_i64 {a b : Int} (h : a = b) : Ending.returned (.int .i64 a) = .returned (.int .i64 b) := by rw [h]

def mostL (a : Int) (l : List Int) : Int := l.foldl max a
def leastL (a : Int) (l : List Int) : Int := l.foldl min a

set_option maxHeartbeats 400000 in
theorem most_any (x : Int) (a : Option Addr) (l : List Int) (cap : Nat) (w : World) (hn : l.length ≤ maxLen) (ha : IntsAt w a l) :
    Calls Try.prog 17 #[.int .i64 x, .slice a l.length cap] w fun e w' => e = .returned (.int .i64 (mostL x l)) ∧ w = w' := by
  unfold maxLen at hn
  have HA := Lib.hid ha; clear ha
  go_enter Try.func17, Try.ntmps17
  go_wp2
  go_loop [5, 11] (fun m i => ∃ k : Nat, k ≤ l.length ∧ i = .int .i64 k ∧ m = .int .i64 (mostL x (l.take k))) (fun _ i => l.length - (intOf i).toNat)
  case atStart => exact ⟨0, Nat.zero_le _, rfl, rfl⟩
  case round =>
    obtain ⟨k, hk, rfl, rfl⟩ := hrel
    by_cases hlt : k < l.length
    · obtain ⟨b, off, rfl, hc⟩ := HA.out.cell hlt
      have hs : mostL x (l.take (k + 1)) = max (mostL x (l.take k)) (l.getD k 0) := by rw [take_one l k hlt]; unfold mostL; rw [List.foldl_append]; rfl
      have HS := Lib.hid hs; clear hs
      obtain ⟨c, hcc⟩ : ∃ c, c = l.getD k 0 := ⟨_, rfl⟩
      obtain ⟨m, hm⟩ : ∃ m, m = mostL x (l.take k) := ⟨_, rfl⟩
      rw [← hcc] at HS hc
      rw [← hm] at HS ⊢
      clear hcc hm
      go_wp2
      go_round
      case rel => exact ⟨k + 1, by omega, by go_num, by rw [HS.out]; congr 1; omega⟩
      case measure => simp [intOf]; omega
    · go_wp2
      go_ret
      exact ⟨ret_i64 (by rw [List.take_of_length_le (by omega)]), rfl⟩
theorem wf_getD {l : List Int} (h : Ints64 l) (k : Nat) : -9223372036854775808 ≤ l.getD k 0 ∧ l.getD k 0 ≤ 9223372036854775807 := by
  rw [List.getD_eq_getElem?_getD]
  by_cases hk : k < l.length
  · have := bounds_i64 (h l[k] (List.getElem_mem hk))
    simp [hk]; omega
  · simp [List.getElem?_eq_none (by omega : l.length ≤ k)]
end Go.Proofs.Ytjpllcdjiagjlaa
