/-
  THE CONTRACT OF sum.shift: the register behind a text's bytes is the one of the document, bit by bit, where the table of nibbles holds its sixteen words.
-/
import Derived.Test.YtpoagfldekppkaaDoorChecked
import Derived.Test.YtpoagfldekppkaaDoorSumMath
import Derived.WalkKit
import Derived.WalkLawsBesides
import Derived.Lib.Hide
namespace Go.Proofs.YtpoagfldekppkaaDoor
open Go.RowKit Crc

/-- The table of nibbles lies in its block. -/
def Tab (w : World) : Prop := ∀ k : Nat, k < 16 → w.cell? ⟨2, k, none⟩ = some (.int .u32 (nibs.getD k 0))

theorem ret_u32 {a b : Int} (h : a = b) : Ending.returned (.int .u32 a) = .returned (.int .u32 b) := by rw [h]

set_option maxHeartbeats 400000 in
theorem shift_any (r : BitVec 32) (s : ByteArray) (w : World) (hs : s.size ≤ maxLen) (ht : Tab w) :
    Calls Tryd.prog 75 #[.int .u32 (r.toNat : Int), .string s] w fun e w' => e = .returned (.int .u32 ((feedBytes r s.data.toList).toNat : Int)) ∧ w = w' := by
  unfold maxLen at hs
  have HT := Lib.hid ht; clear ht
  go_enter Tryd.func75, Tryd.ntmps75
  go_wp2
  go_loop [0, 8] (fun x i => ∃ k : Nat, k ≤ s.size ∧ i = .int .i64 k ∧ x = .int .u32 ((feedBytes r (s.data.toList.take k)).toNat : Int)) (fun _ i => s.size - (intOf i).toNat)
  case atStart => exact ⟨0, Nat.zero_le _, rfl, rfl⟩
  case round =>
    obtain ⟨k, hk, rfl, rfl⟩ := hrel
    by_cases hlt : k < s.size
    · have hsn : feedBytes r (s.data.toList.take (k + 1)) = feedByte (feedBytes r (s.data.toList.take k)) s[k] := by rw [take_snoc s k hlt, feedBytes_snoc]
      have HS := Lib.hid hsn; clear hsn
      obtain ⟨R, hR⟩ : ∃ R, R = feedBytes r (s.data.toList.take k) := ⟨_, rfl⟩
      rw [← hR] at HS ⊢
      have HR := Lib.hid hR; clear hR
      obtain ⟨x, y, e1, e2, b2, e3, e4, b4, e5⟩ := step_eqs R s[k]
      have c1 := HT.out _ b2
      have c2 := HT.out _ b4
      have n1 : x.toNat < 4294967296 := x.isLt
      have n2 : y.toNat < 4294967296 := y.isLt
      obtain ⟨i1, hi1⟩ : ∃ i1, i1 = x.toNat % 16 := ⟨_, rfl⟩
      obtain ⟨i2, hi2⟩ : ∃ i2, i2 = y.toNat % 16 := ⟨_, rfl⟩
      rw [← hi1] at e2 b2 e3 c1
      rw [← hi2] at e4 b4 e5 c2
      clear hi1 hi2
      obtain ⟨v1, hv1⟩ : ∃ v1, v1 = nibs.getD i1 0 := ⟨_, rfl⟩
      obtain ⟨v2, hv2⟩ : ∃ v2, v2 = nibs.getD i2 0 := ⟨_, rfl⟩
      rw [← hv1] at e3 c1
      rw [← hv2] at e5 c2
      clear hv1 hv2
      go_wp2
      go_round
      case rel => exact ⟨k + 1, by omega, by go_num, by rw [HS.out]⟩
      case measure => simp [intOf]; omega
    · go_wp2
      go_ret
      exact ⟨ret_u32 (by rw [List.take_of_length_le (by simp; omega)]), rfl⟩
end Go.Proofs.YtpoagfldekppkaaDoor
