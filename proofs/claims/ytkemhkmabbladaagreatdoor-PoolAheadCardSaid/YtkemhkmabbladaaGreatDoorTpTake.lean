/-
  THE CONTRACT OF page.takeText.
-/
import Derived.Test.YtkemhkmabbladaaGreatDoorTpA
import Derived.Test.YtkemhkmabbladaaGreatDoorNuml
namespace Go.Proofs.YtkemhkmabbladaaGreatDoor
open Go.RowKit
/-- A text that is taken, and what is left. -/
def txOf (s : ByteArray) : Option (ByteArray × ByteArray) :=
  match takeOf s 1 with
  | some (n, r) => if n ≤ r.size then some (r.extract 0 n, r.extract n r.size) else none
  | none => none
def txVal (s : ByteArray) : Value :=
  match txOf s with
  | some (x, r) => .tuple #[.string x, .string r, .bool true]
  | none => .tuple #[.string ⟨#[]⟩, .string ⟨#[]⟩, .bool false]
theorem takeOf_small {s : ByteArray} {K : Nat} {n : Nat} {r : ByteArray} (h : takeOf s (K : Int) = some (n, r)) : n < 256 ^ K ∧ r.size + K = s.size ∧ n ≤ 9223372036854775807 := by
  unfold takeOf at h
  split at h
  · rename_i h0
    simp only [Option.some.injEq, Prod.mk.injEq, Int.toNat_natCast] at h
    obtain ⟨rfl, rfl⟩ := h
    have := beVal_lt (s.data.toList.take K)
    have hl : (s.data.toList.take K).length ≤ K := by rw [List.length_take]; exact Nat.min_le_left _ _
    have h2 : 256 ^ (s.data.toList.take K).length ≤ 256 ^ K := Nat.pow_le_pow_right (by omega) hl
    obtain ⟨_, _, h3, h4⟩ := h0
    rw [Int.toNat_natCast] at h4
    refine ⟨by omega, ?_, h4⟩
    rw [ByteArray.size_extract]; omega
  · cases h
theorem txOf_small {s x r : ByteArray} (h : txOf s = some (x, r)) : r.size ≤ s.size ∧ x.size ≤ 255 := by
  unfold txOf at h
  split at h
  · rename_i n r' e
    obtain ⟨h1, h2, _⟩ := takeOf_small (K := 1) e
    split at h
    · rename_i hn
      simp only [Option.some.injEq, Prod.mk.injEq] at h
      obtain ⟨rfl, rfl⟩ := h
      rw [ByteArray.size_extract, ByteArray.size_extract]; omega
    · cases h
  · cases h
set_option maxHeartbeats 2000000 in
theorem takeText_any (s : ByteArray) (w : World) (hs : s.size ≤ 140737488355328) :
    Calls Tryz.prog 99 #[.string s] w fun e w' => e = .returned (txVal s) ∧ Below w.heap.size w w' := by
  have KT := Lib.hid (fun W => take_any s 1 W (by omega) hs)
  cases hT : takeOf s 1 with
  | none =>
    have e1 : takeVal s 1 = .tuple #[.int .i64 0, .string s, .bool false] := by unfold takeVal; rw [hT]
    have e2 : Hid (txVal s = .tuple #[.string ⟨#[]⟩, .string ⟨#[]⟩, .bool false]) := by unfold txVal txOf; rw [hT]; exact rfl
    rw [e1] at KT
    generalize txVal s = V at e2 ⊢
    clear hT e1
    go_enter Tryz.func99, Tryz.ntmps99
    go_wp2_with fail
    refine (KT.out _).mono ?_
    rintro e w1 ⟨rfl, hb1⟩
    go_wp2
    go_ret3
    exact ⟨by rw [e2.out]; rfl, hb1⟩
  | some p =>
    obtain ⟨n, r⟩ := p
    obtain ⟨hn1, hn2, hn3⟩ := takeOf_small (K := 1) hT
    have e1 : takeVal s 1 = .tuple #[.int .i64 n, .string r, .bool true] := by unfold takeVal; rw [hT]
    rw [e1] at KT
    by_cases hr : n ≤ r.size
    · have e2 : Hid (txVal s = .tuple #[.string (r.extract 0 n), .string (r.extract n r.size), .bool true]) := by rw [Hid]; unfold txVal txOf; rw [hT]; simp only [if_pos hr]
      generalize txVal s = V at e2 ⊢
      clear hT e1
      have g1 : (n : Int) ≤ (r.size : Int) := by omega
      have g0 : (0 : Int) ≤ (n : Int) := by omega
      go_enter Tryz.func99, Tryz.ntmps99
      go_wp2_with fail
      refine (KT.out _).mono ?_
      rintro e w1 ⟨rfl, hb1⟩
      go_wp2
      go_quiet (fail)
      go_wp2
      go_ret3
      exact ⟨by rw [e2.out]; rfl, below_drewN hb1 _⟩
    · have e2 : Hid (txVal s = .tuple #[.string ⟨#[]⟩, .string ⟨#[]⟩, .bool false]) := by rw [Hid]; unfold txVal txOf; rw [hT]; simp only [if_neg hr]
      generalize txVal s = V at e2 ⊢
      clear hT e1
      have g1 : (r.size : Int) < (n : Int) := by omega
      have g0 : (0 : Int) ≤ (n : Int) := by omega
      go_enter Tryz.func99, Tryz.ntmps99
      go_wp2_with fail
      refine (KT.out _).mono ?_
      rintro e w1 ⟨rfl, hb1⟩
      go_wp2
      go_ret3
      exact ⟨by rw [e2.out]; rfl, hb1⟩
end Go.Proofs.YtkemhkmabbladaaGreatDoor
