/-
  THE CONTRACTS OF nums.Most, Least, Sum.
-/
import Derived.Test.YtcdnohgnmfaclaaChecked
import Derived.WalkKit
import Derived.WalkLawsBesides
import Derived.Lib.Hide
import Derived.OpenShut
namespace Go.Proofs.Ytcdnohgnmfaclaa
open Go.RowKit

/-- A slice of ints that reads as these numbers. -/
def IntsAt (w : World) (a : Option Addr) (l : List Int) : Prop :=
  l = [] ∨ ∃ b off, a = some ⟨b, off, none⟩ ∧ ∀ i, i < l.length → w.cell? ⟨b, off + i, none⟩ = some (.int .i64 (l.getD i 0))
def Ints64 (l : List Int) : Prop := ∀ n ∈ l, (Lit.int .i64 n).wf = true

theorem cell_lt {w : World} {b off : Nat} {v : Value} (h : w.cell? ⟨b, off, none⟩ = some v) : b < w.heap.size := by
  rcases Nat.lt_or_ge b w.heap.size with h1 | h1
  · exact h1
  · simp [World.cell?, Array.getElem?_eq_none h1] at h
theorem IntsAt.below {w w' : World} {a : Option Addr} {l : List Int} (h : IntsAt w a l) (hb : Below w.heap.size w w') : IntsAt w' a l := by
  rcases h with h | ⟨b, off, e, h⟩
  · exact .inl h
  · refine .inr ⟨b, off, e, fun i hi => ?_⟩
    have h0 := cell_lt (h i hi)
    rw [hb.cell (p := ⟨b, off + i, none⟩) h0]; exact h i hi
theorem IntsAt.cell {w : World} {a : Option Addr} {l : List Int} (h : IntsAt w a l) {k : Nat} (hk : k < l.length) : ∃ b off, a = some ⟨b, off, none⟩ ∧ w.cell? ⟨b, off + k, none⟩ = some (.int .i64 (l.getD k 0)) := by
  rcases h with rfl | ⟨b, off, e, h⟩
  · simp at hk
  · exact ⟨b, off, e, h k hk⟩
theorem take_one (l : List Int) (k : Nat) (h : k < l.length) : l.take (k + 1) = l.take k ++ [l.getD k 0] := by
  rw [List.take_succ_eq_append_getElem h]; simp [List.getD_eq_getElem?_getD, h]
theorem ret_i64 {a b : Int} (h : a = b) : Ending.returned (.int .i64 a) = .returned (.int .i64 b) := by rw [h]

def mostL (a : Int) (l : List Int) : Int := l.foldl max a
def leastL (a : Int) (l : List Int) : Int := l.foldl min a

set_option maxHeartbeats 400000 in
theorem most_any (x : Int) (a : Option Addr) (l : List Int) (cap : Nat) (w : World) (hn : l.length ≤ maxLen) (ha : IntsAt w a l) :
    Calls Try.prog 10 #[.int .i64 x, .slice a l.length cap] w fun e w' => e = .returned (.int .i64 (mostL x l)) ∧ w = w' := by
  unfold maxLen at hn
  have HA := Lib.hid ha; clear ha
  go_enter Try.func10, Try.ntmps10
  go_wp2
  go_loop [5, 11] (fun m i => ∃ k : Nat, k ≤ l.length ∧ i = .int .i64 k ∧ m = .int .i64 (mostL x (l.take k))) (fun _ i => l.length - (intOf i).toNat)
  case atStart => exact ⟨0, Nat.zero_le _, rfl, rfl⟩
  case round =>
    obtain ⟨k, hk, rfl, rfl⟩ := hrel
    by_cases hlt : k < l.length
    · obtain ⟨b, off, rfl, hc⟩ := HA.out.cell hlt
      have hs : mostL x (l.take (k + 1)) = max (mostL x (l.take k)) (l.getD k 0) := by rw [take_one l k hlt]; unfold mostL; rw [List.foldl_append]; rfl
      have HS := Lib.hid hs; clear hs
      obtain ⟨c, hcc⟩ : ∃ c, c = l.getD k 0 := ⟨_, rfl⟩
      obtain ⟨m, hm⟩ : ∃ m, m = mostL x (l.take k) := ⟨_, rfl⟩
      rw [← hcc] at HS hc
      rw [← hm] at HS ⊢
      clear hcc hm
      go_wp2
      go_round
      case rel => exact ⟨k + 1, by omega, by go_num, by rw [HS.out]; congr 1; omega⟩
      case measure => simp [intOf]; omega
    · go_wp2
      go_ret
      exact ⟨ret_i64 (by rw [List.take_of_length_le (by omega)]), rfl⟩
set_option maxHeartbeats 400000 in
theorem least_any (x : Int) (a : Option Addr) (l : List Int) (cap : Nat) (w : World) (hn : l.length ≤ maxLen) (ha : IntsAt w a l) :
    Calls Try.prog 11 #[.int .i64 x, .slice a l.length cap] w fun e w' => e = .returned (.int .i64 (leastL x l)) ∧ w = w' := by
  unfold maxLen at hn
  have HA := Lib.hid ha; clear ha
  go_enter Try.func11, Try.ntmps11
  go_wp2
  go_loop [5, 11] (fun m i => ∃ k : Nat, k ≤ l.length ∧ i = .int .i64 k ∧ m = .int .i64 (leastL x (l.take k))) (fun _ i => l.length - (intOf i).toNat)
  case atStart => exact ⟨0, Nat.zero_le _, rfl, rfl⟩
  case round =>
    obtain ⟨k, hk, rfl, rfl⟩ := hrel
    by_cases hlt : k < l.length
    · obtain ⟨b, off, rfl, hc⟩ := HA.out.cell hlt
      have hs : leastL x (l.take (k + 1)) = min (leastL x (l.take k)) (l.getD k 0) := by rw [take_one l k hlt]; unfold leastL; rw [List.foldl_append]; rfl
      have HS := Lib.hid hs; clear hs
      obtain ⟨c, hcc⟩ : ∃ c, c = l.getD k 0 := ⟨_, rfl⟩
      obtain ⟨m, hm⟩ : ∃ m, m = leastL x (l.take k) := ⟨_, rfl⟩
      rw [← hcc] at HS hc
      rw [← hm] at HS ⊢
      clear hcc hm
      go_wp2
      go_round
      case rel => exact ⟨k + 1, by omega, by go_num, by rw [HS.out]; congr 1; omega⟩
      case measure => simp [intOf]; omega
    · go_wp2
      go_ret
      exact ⟨ret_i64 (by rw [List.take_of_length_le (by omega)]), rfl⟩
/-- The sum of those above 0. -/
def posSum (l : List Int) : Int := l.foldl (fun s n => if 0 < n then s + n else s) 0
theorem posSum_snoc (l : List Int) (k : Nat) (h : k < l.length) : posSum (l.take (k + 1)) = if 0 < l.getD k 0 then posSum (l.take k) + l.getD k 0 else posSum (l.take k) := by
  rw [take_one l k h]; unfold posSum; rw [List.foldl_append]; rfl
theorem posSum_from (l : List Int) : ∀ s : Int, s ≤ l.foldl (fun s n => if 0 < n then s + n else s) s := by
  induction l with
  | nil => intro s; exact Int.le_refl _
  | cons n l ih =>
    intro s
    rw [List.foldl_cons]
    refine Int.le_trans ?_ (ih _)
    split <;> omega
theorem posSum_take (l : List Int) (k : Nat) : posSum (l.take k) ≤ posSum l := by
  conv => rhs; rw [← List.take_append_drop k l]
  unfold posSum
  rw [List.foldl_append]
  exact posSum_from _ _
theorem posSum_nonneg (l : List Int) : 0 ≤ posSum l := posSum_from l 0
def maxInt : Int := 9223372036854775807
def sumL (l : List Int) : Int := if posSum l ≤ maxInt then posSum l else maxInt
theorem wf_getD {l : List Int} (h : Ints64 l) (k : Nat) : -9223372036854775808 ≤ l.getD k 0 ∧ l.getD k 0 ≤ 9223372036854775807 := by
  rw [List.getD_eq_getElem?_getD]
  by_cases hk : k < l.length
  · have := bounds_i64 (h l[k] (List.getElem_mem hk))
    simp [hk]; omega
  · simp [List.getElem?_eq_none (by omega : l.length ≤ k)]

set_option maxHeartbeats 400000 in
theorem sum_any (a : Option Addr) (l : List Int) (cap : Nat) (w : World) (hw : Ints64 l) (hn : l.length ≤ maxLen) (ha : IntsAt w a l) :
    Calls Try.prog 12 #[.slice a l.length cap] w fun e w' => e = .returned (.int .i64 (sumL l)) ∧ w = w' := by
  unfold maxLen at hn
  have HA := Lib.hid ha; clear ha
  have HW := Lib.hid hw; clear hw
  go_enter Try.func12, Try.ntmps12
  go_wp2
  go_loop [3, 8] (fun m i => ∃ k : Nat, k ≤ l.length ∧ i = .int .i64 k ∧ m = .int .i64 (posSum (l.take k)) ∧ posSum (l.take k) ≤ 9223372036854775807) (fun _ i => l.length - (intOf i).toNat)
  case atStart => exact ⟨0, Nat.zero_le _, rfl, rfl, by simp [posSum]⟩
  case round =>
    obtain ⟨k, hk, rfl, rfl, hmx⟩ := hrel
    have h0 := posSum_nonneg (l.take k)
    by_cases hlt : k < l.length
    · obtain ⟨b, off, rfl, hc⟩ := HA.out.cell hlt
      have hs := posSum_snoc l k hlt
      have hbd := wf_getD HW.out k
      have hle := posSum_take l (k + 1)
      have HS := Lib.hid hs; clear hs
      have HLE := Lib.hid hle; clear hle
      obtain ⟨c, hcc⟩ : ∃ c, c = l.getD k 0 := ⟨_, rfl⟩
      obtain ⟨m, hm⟩ : ∃ m, m = posSum (l.take k) := ⟨_, rfl⟩
      rw [← hcc] at HS hc hbd
      rw [← hm] at HS hmx h0 ⊢
      clear hcc hm
      by_cases hpos : 0 < c
      · by_cases hov : 9223372036854775807 - m < c
        · go_wp2
          go_ret
          exact ⟨ret_i64 (by
            have h1 := HS.out; have h2 := HLE.out
            rw [if_pos hpos] at h1
            unfold sumL maxInt
            rw [if_neg (by omega)]), rfl⟩
        · go_wp2
          go_round
          case rel => exact ⟨k + 1, by omega, by go_num, by rw [HS.out, if_pos hpos], by rw [HS.out, if_pos hpos]; omega⟩
          case measure => simp [intOf]; omega
      · go_wp2
        go_round
        case rel => exact ⟨k + 1, by omega, by go_num, by rw [HS.out, if_neg hpos], by rw [HS.out, if_neg hpos]; omega⟩
        case measure => simp [intOf]; omega
    · go_wp2
      go_ret
      exact ⟨ret_i64 (by
        rw [List.take_of_length_le (by omega)] at hmx ⊢
        unfold sumL maxInt
        rw [if_pos hmx]), rfl⟩
end Go.Proofs.Ytcdnohgnmfaclaa
