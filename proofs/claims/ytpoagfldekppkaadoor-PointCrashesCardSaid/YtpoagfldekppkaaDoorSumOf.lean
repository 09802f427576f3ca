/-
  THE CONTRACTS OF sum.Of, quadrigaref02.Sum AND quadrigalaw02.join: the sum of texts, one behind the other; the document's sum, bit by bit, is the same.
-/
import Derived.Test.YtpoagfldekppkaaDoorSumShift
namespace Go.Proofs.YtpoagfldekppkaaDoor
open Go.RowKit Crc

/-- A slice of strings that reads as these texts: nothing is asked where there is none. -/
def StrsAt (w : World) (a : Option Addr) (ss : List ByteArray) : Prop :=
  ss = [] ∨ ∃ b off, a = some ⟨b, off, none⟩ ∧ ∀ i, i < ss.length → w.cell? ⟨b, off + i, none⟩ = some (.string (ss.getD i ByteArray.empty))
def joined (ss : List ByteArray) : List UInt8 := ss.flatMap fun s => s.data.toList
def Short (ss : List ByteArray) : Prop := ∀ s ∈ ss, s.size ≤ maxLen

theorem joined_take (ss : List ByteArray) (k : Nat) (h : k < ss.length) : joined (ss.take (k + 1)) = joined (ss.take k) ++ (ss.getD k ByteArray.empty).data.toList := by
  unfold joined
  rw [List.take_succ_eq_append_getElem h, List.flatMap_append]
  simp [List.getD_eq_getElem?_getD, h]

theorem not_u32 (r : BitVec 32) : bits .xor .u32 4294967295 (r.toNat : Int) = ((~~~ r).toNat : Int) := by
  rw [show (4294967295 : Int) = ((4294967295 : Nat) : Int) from rfl, u32_xor_nat _ _ (by omega) r.isLt]
  have h : (~~~ r) = BitVec.allOnes 32 ^^^ r := by rw [BitVec.allOnes_xor]
  rw [h, BitVec.toNat_xor, BitVec.toNat_allOnes]

set_option maxHeartbeats 400000 in
theorem of_any (a : Option Addr) (ss : List ByteArray) (cap : Nat) (w : World) (hs : Short ss) (hn : ss.length ≤ maxLen) (ha : StrsAt w a ss) (ht : Tab w) :
    Calls Tryd.prog 66 #[.slice a ss.length cap] w fun e w' => e = .returned (.int .u32 ((crc (joined ss)).toNat : Int)) ∧ w = w' := by
  unfold maxLen at hn
  have HT := Lib.hid ht; clear ht
  have HA := Lib.hid ha; clear ha
  have HSh := Lib.hid hs; clear hs
  go_enter Tryd.func66, Tryd.ntmps66
  go_wp2
  go_loop [3, 8] (fun x i => ∃ k : Nat, k ≤ ss.length ∧ i = .int .i64 k ∧ x = .int .u32 ((feedBytes (BitVec.allOnes 32) (joined (ss.take k))).toNat : Int)) (fun _ i => ss.length - (intOf i).toNat)
  case atStart => exact ⟨0, Nat.zero_le _, rfl, rfl⟩
  case round =>
    obtain ⟨k, hk, rfl, rfl⟩ := hrel
    obtain ⟨R, hR⟩ : ∃ R, R = feedBytes (BitVec.allOnes 32) (joined (ss.take k)) := ⟨_, rfl⟩
    rw [← hR]
    have HR := Lib.hid hR; clear hR
    by_cases hlt : k < ss.length
    · have hsn : feedBytes (BitVec.allOnes 32) (joined (ss.take (k + 1))) = feedBytes R (ss.getD k ByteArray.empty).data.toList := by rw [joined_take ss k hlt, feedBytes_append, HR.out]
      have hmem : ss.getD k ByteArray.empty ∈ ss := by simp [List.getD_eq_getElem?_getD, hlt]
      obtain ⟨b, off, rfl, hc⟩ : ∃ b off, a = some ⟨b, off, none⟩ ∧ ∀ i, i < ss.length → w.cell? ⟨b, off + i, none⟩ = some (.string (ss.getD i ByteArray.empty)) := by
        rcases HA.out with h | h
        · rw [h] at hlt; simp at hlt
        · exact h
      have hck := hc k hlt
      clear hc
      obtain ⟨s, hs⟩ : ∃ s, s = ss.getD k ByteArray.empty := ⟨_, rfl⟩
      rw [← hs] at hsn hmem hck
      have hsz := HSh.out s hmem
      clear hs
      have HS := Lib.hid hsn; clear hsn
      go_wp2_with (go_at_call 75; refine (shift_any R s _ hsz HT.out).mono ?_; rintro e w' ⟨rfl, rfl⟩)
      go_round
      case rel => exact ⟨k + 1, by omega, by go_num, by rw [HS.out]⟩
      case measure => simp [intOf]; omega
    · go_wp2
      go_ret
      exact ⟨ret_u32 (by rw [HR.out, List.take_of_length_le (by omega)]; exact not_u32 _), rfl⟩
end Go.Proofs.YtpoagfldekppkaaDoor
