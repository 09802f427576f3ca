/-
  THE CONTRACTS OF record.laid AND undoSize: a value's bytes, and in how many bytes a kind's Undo is laid.
-/
import Derived.Test.YtlggbbaigcnpjaaDoorNPut
import Derived.Test.YtlggbbaigcnpjaaDoorRcChanged
namespace Go.Proofs.YtlggbbaigcnpjaaDoor
open Go.RowKit

theorem put1_at (K x : Int) (hK : 1 ≤ K ∧ K ≤ 8) (hx : (Lit.int .i64 x).wf = true) (g : Nat) (W : World) (hc : W.cell? ⟨g, 0, none⟩ = some (.int .i64 x)) :
    Calls Tryd.prog 15 #[.int .i64 K, .slice (some ⟨g, 0, none⟩) 1 1] W fun e w' => e = .returned (.string ⟨(putL K [x]).toArray⟩) ∧ Below W.heap.size W w' :=
  put_any K (some ⟨g, 0, none⟩) [x] 1 W (by omega) (by intro n hn; simp at hn; subst hn; exact hx) (by simp) (.inr ⟨g, 0, rfl, fun i hi => by
    match i, hi with
    | 0, _ => exact hc⟩)
/-- A number's bytes, as a text. -/
def num (K : Nat) (x : Int) : ByteArray := ⟨(putL K [x]).toArray⟩
theorem num_size (K : Nat) (x : Int) (h1 : 1 ≤ K) (h8 : K ≤ 8) : (num K x).size ≤ 8 := by
  show (putL K [x]).toArray.size ≤ 8
  rw [List.size_toArray, putL_one K x h1 h8]
  split
  · rw [be_len]; omega
  · simp
theorem num_len {K : Nat} {x : Int} (h1 : 1 ≤ K) (h8 : K ≤ 8) (h : fitsN K x = true) : (num K x).size = K := by
  show (putL K [x]).toArray.size = K
  rw [List.size_toArray, putL_one K x h1 h8, if_pos h, be_len]
theorem num_at (K : Nat) (x : Int) (hK : 1 ≤ K ∧ K ≤ 8) (hx : (Lit.int .i64 x).wf = true) (g : Nat) (W : World) (hc : W.cell? ⟨g, 0, none⟩ = some (.int .i64 x)) :
    Calls Tryd.prog 15 #[.int .i64 (K : Int), .slice (some ⟨g, 0, none⟩) 1 1] W fun e w' => e = .returned (.string (num K x)) ∧ Below W.heap.size W w' :=
  put1_at K x (by omega) hx g W hc
theorem num1_at (x : Int) (hx : (Lit.int .i64 x).wf = true) (g : Nat) (W : World) (hc : W.cell? ⟨g, 0, none⟩ = some (.int .i64 x)) :
    Calls Tryd.prog 15 #[.int .i64 1, .slice (some ⟨g, 0, none⟩) 1 1] W fun e w' => e = .returned (.string (num 1 x)) ∧ Below W.heap.size W w' :=
  put1_at 1 x (by omega) hx g W hc
theorem num4_at (x : Int) (hx : (Lit.int .i64 x).wf = true) (g : Nat) (W : World) (hc : W.cell? ⟨g, 0, none⟩ = some (.int .i64 x)) :
    Calls Tryd.prog 15 #[.int .i64 4, .slice (some ⟨g, 0, none⟩) 1 1] W fun e w' => e = .returned (.string (num 4 x)) ∧ Below W.heap.size W w' :=
  put1_at 4 x (by omega) hx g W hc
theorem num8_at (x : Int) (hx : (Lit.int .i64 x).wf = true) (g : Nat) (W : World) (hc : W.cell? ⟨g, 0, none⟩ = some (.int .i64 x)) :
    Calls Tryd.prog 15 #[.int .i64 8, .slice (some ⟨g, 0, none⟩) 1 1] W fun e w' => e = .returned (.string (num 8 x)) ∧ Below W.heap.size W w' :=
  put1_at 8 x (by omega) hx g W hc

/-- A value's bytes. -/
def valS (h : Bool) (s : ByteArray) : ByteArray := if h then num 1 ((s.size : Int) + 1) ++ s else num 1 0
theorem valS_size (h : Bool) (s : ByteArray) : (valS h s).size ≤ 8 + s.size := by
  unfold valS
  split
  · rw [ByteArray.size_append]; have := num_size 1 ((s.size : Int) + 1) (by omega) (by omega); omega
  · have := num_size 1 0 (by omega) (by omega); omega
set_option maxHeartbeats 1000000 in
theorem laid_any (h : Bool) (s : ByteArray) (w : World) (hs : s.size ≤ 100000) :
    Calls Tryd.prog 17 #[.agg #[.bool h, .string s]] w fun e w' => e = .returned (.string (valS h s)) ∧ Below w.heap.size w w' := by
  have HV : Hid (valS h s = if h then num 1 ((s.size : Int) + 1) ++ s else num 1 0) := rfl
  generalize valS h s = V at HV ⊢
  cases h
  · have HP := Lib.hid (num1_at 0 (by decide))
    generalize num 1 0 = N at HP HV
    go_enter Tryd.func17, Tryd.ntmps17
    go_wp2_with fail
    refine (HP.out _ _ ?_).mono ?_
    · exact new_cell (by rw [World.size_alloc]) rfl
    rintro x w1 ⟨rfl, hb1⟩
    go_wp2
    go_ret
    refine ⟨by rw [HV.out]; rfl, bw_call hb1 ?_⟩
    (repeat (first | with_reducible exact Below.refl _ _ | with_reducible refine bw_alloc ?_ | with_reducible refine bw_drew ?_))
  · have HP := Lib.hid (num1_at ((s.size : Int) + 1) (WalkArith.wf_i64 (by omega)))
    have hnz := num_size 1 ((s.size : Int) + 1) (by omega) (by omega)
    generalize num 1 ((s.size : Int) + 1) = N at HP hnz HV
    have hcat : ¬ 9223372036854775807 < N.size + s.size := by omega
    have hwr : IntKind.i64.wrap ((s.size : Int) + 1) = (s.size : Int) + 1 := by rw [IntKind.wrap_i64]; omega
    have k0 : (w.alloc (.cells #[.bool true, .string s] 23)).cell? ⟨w.heap.size, 0, none⟩ = some (.bool true) := new_cell rfl rfl
    have k1 : (w.alloc (.cells #[.bool true, .string s] 23)).cell? ⟨w.heap.size, 1, none⟩ = some (.string s) := new_cell rfl rfl
    go_enter Tryd.func17, Tryd.ntmps17
    go_wp2_with fail
    go_region_held3 (fun w' => w'.cell? ⟨w.heap.size, 0, none⟩ = some (.bool true) ∧ w'.cell? ⟨w.heap.size, 1, none⟩ = some (.string s))
      ((refine ⟨?_, ?_⟩ <;> (repeat (first | with_reducible assumption | with_reducible refine keep_alloc ?_ | with_reducible refine keep_drew ?_ | with_reducible refine keep_cell (by assumption) ?_))))
      ((go_at_call 15; refine (HP.out _ _ ?_).mono ?_; (repeat (first | (with_reducible refine new_cell ?_ ?_ <;> first | rfl | (simp; done)) | with_reducible refine keep_alloc ?_ | with_reducible refine keep_drew ?_ | with_reducible refine keep_cell (by assumption) ?_)); rintro x w9 ⟨rfl, hb9⟩))
    all_goals go_wp2
    all_goals go_ret
    all_goals refine ⟨by rw [HV.out]; rfl, ?_⟩
    all_goals (repeat (first | with_reducible assumption | with_reducible exact Below.refl _ _ | with_reducible refine bw_alloc ?_ | with_reducible refine bw_drew ?_ | with_reducible refine bw_call (by assumption) ?_))

/-- In how many bytes a kind's Undo is laid. -/
def usz (k : Int) : Nat := if k = 3 then 8 else if k = 4 then 1 else 0
theorem undoSize_any (k : Int) (w : World) : Calls Tryd.prog 18 #[.int .i64 k] w fun e w' => e = .returned (.int .i64 (usz k : Int)) ∧ w = w' := by
  by_cases h3 : k = 3
  · subst h3
    go_enter Tryd.func18, Tryd.ntmps18
    go_wp2
    go_ret
    exact ⟨rfl, rfl⟩
  · by_cases h4 : k = 4
    · subst h4
      go_enter Tryd.func18, Tryd.ntmps18
      go_wp2
      go_ret
      exact ⟨rfl, rfl⟩
    · have e3 : (k == 3) = false := by rw [beq_eq_false_iff_ne]; exact h3
      have e4 : (k == 4) = false := by rw [beq_eq_false_iff_ne]; exact h4
      have HU : Hid (usz k = 0) := by rw [Hid]; unfold usz; rw [if_neg h3, if_neg h4]
      go_enter Tryd.func18, Tryd.ntmps18
      go_wp2
      go_ret
      exact ⟨by rw [HU.out]; rfl, rfl⟩
end Go.Proofs.YtlggbbaigcnpjaaDoor
