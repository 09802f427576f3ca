/-
  THE CONTRACT OF quadrigaref02.Sum: the document's sum, bit by bit.
-/
import Derived.Test.YtgkpbchpjgkblaaDoorSumOf
namespace Go.Proofs.YtgkpbchpjgkblaaDoor
open Go.RowKit Crc

theorem bit_val (c : UInt8) (b : Nat) : ((c.toNat : Int) / 2 ^ b).tmod 2 % 4294967296 = if c.toNat.testBit b then 1 else 0 := by
  have e : (c.toNat : Int) / 2 ^ b = ((c.toNat / 2 ^ b : Nat) : Int) := by simp
  rw [e, Nat.testBit_eq_decide_div_mod_eq]
  generalize c.toNat / 2 ^ b = d
  rw [Int.tmod_eq_emod_of_nonneg (Int.natCast_nonneg d)]
  by_cases h : d % 2 = 1
  · simp only [h, decide_true, if_true]
    omega
  · simp only [h, decide_false]
    have : d % 2 = 0 := by omega
    simp
    omega

theorem feedBit_val (Q : BitVec 32) (d : Bool) : (feedBit Q d).toNat = if ((Q.toNat % 2 == 1) != d) then (Q.toNat / 2) ^^^ 3988292384 else Q.toNat / 2 := by
  have h0 : (Q ^^^ bit1 d).getLsbD 0 = ((Q.toNat % 2 == 1) != d) := by
    rw [BitVec.getLsbD_xor]
    have : Q.getLsbD 0 = (Q.toNat % 2 == 1) := by rw [BitVec.getLsbD, Nat.testBit_zero]; simp [Bool.beq_eq_decide_eq]
    rw [this]
    cases d <;> simp [bit1]
  have h1 : ((Q ^^^ bit1 d) >>> 1).toNat = Q.toNat / 2 := by
    rw [BitVec.toNat_ushiftRight, BitVec.toNat_xor, Nat.shiftRight_eq_div_pow]
    apply Nat.eq_of_testBit_eq
    intro i
    rw [Nat.testBit_div_two_pow, Nat.testBit_xor]
    have : (bit1 d).toNat.testBit (i + 1) = false := by
      cases d
      · simp [bit1]
      · show Nat.testBit 1 (i + 1) = false
        rw [Nat.testBit_succ]; simp
    rw [this, show (2 : Nat) = 2 ^ 1 from rfl, Nat.testBit_div_two_pow]
    simp
  unfold feedBit T
  rw [BitVec.toNat_xor, h1, h0]
  cases ((Q.toNat % 2 == 1) != d) <;> simp

theorem bit_hit (Q : BitVec 32) (c : UInt8) (b : Nat) (h : ((Q.toNat : Int) % 2 != ((c.toNat : Int) / 2 ^ b).tmod 2 % 4294967296) = true) :
    bits .xor .u32 ((Q.toNat : Int) / 2) 3988292384 = ((feedBit Q (c.toNat.testBit b)).toNat : Int) := by
  rw [bit_val] at h
  have hq : Q.toNat < 4294967296 := Q.isLt
  rw [feedBit_val, if_pos]
  · rw [show (Q.toNat : Int) / 2 = ((Q.toNat / 2 : Nat) : Int) from by omega, show (3988292384 : Int) = ((3988292384 : Nat) : Int) from rfl, u32_xor_nat _ _ (by omega) (by omega)]
  · rw [bne_iff_ne] at h ⊢
    cases hb : c.toNat.testBit b <;> simp [hb] at h ⊢ <;> omega

theorem bit_miss (Q : BitVec 32) (c : UInt8) (b : Nat) (h : ((Q.toNat : Int) % 2 != ((c.toNat : Int) / 2 ^ b).tmod 2 % 4294967296) = false) :
    (Q.toNat : Int) / 2 = ((feedBit Q (c.toNat.testBit b)).toNat : Int) := by
  rw [bit_val] at h
  rw [feedBit_val, if_neg]
  · omega
  · rw [bne_eq_false_iff_eq] at h
    cases hb : c.toNat.testBit b <;> simp [hb] at h ⊢ <;> omega

theorem feed_bits (R : BitVec 32) (c : UInt8) (b : Nat) (h : b < 8) : feed R ((bitsOf c).take (b + 1)) = feedBit (feed R ((bitsOf c).take b)) (c.toNat.testBit b) := by
  have hl : (bitsOf c).length = 8 := by simp [bitsOf]
  rw [List.take_succ_eq_append_getElem (by omega), feed_append]
  show feedBit _ _ = _
  congr 1
  simp [bitsOf]

theorem feed_all (R : BitVec 32) (c : UInt8) (b : Nat) (h : 8 ≤ b) : feed R ((bitsOf c).take b) = feedByte R c := by
  have hl : (bitsOf c).length = 8 := by simp [bitsOf]
  rw [List.take_of_length_le (by omega)]; rfl

theorem not_val (r : BitVec 32) : (4294967295 : Int) - (r.toNat : Int) = ((~~~ r).toNat : Int) := by
  have := r.isLt
  rw [BitVec.toNat_not]; omega

set_option maxHeartbeats 400000 in
theorem refSum_any (s : ByteArray) (w : World) (hs : s.size ≤ maxLen) :
    Calls Tryd.prog 52 #[.string s] w fun e w' => e = .returned (.int .u32 ((crc s.data.toList).toNat : Int)) ∧ w = w' := by
  unfold maxLen at hs
  go_enter Tryd.func52, Tryd.ntmps52
  go_wp2
  go_loop [3, 4] (fun x i => ∃ k : Nat, k ≤ s.size ∧ i = .int .i64 k ∧ x = .int .u32 ((feedBytes (BitVec.allOnes 32) (s.data.toList.take k)).toNat : Int)) (fun _ i => s.size - (intOf i).toNat)
  case atStart => exact ⟨0, Nat.zero_le _, rfl, rfl⟩
  case round =>
    obtain ⟨k, hk, rfl, rfl⟩ := hrel
    by_cases hlt : k < s.size
    · have hsn : feedBytes (BitVec.allOnes 32) (s.data.toList.take (k + 1)) = feedByte (feedBytes (BitVec.allOnes 32) (s.data.toList.take k)) s[k] := by rw [take_snoc s k hlt, feedBytes_snoc]
      have HS := Lib.hid hsn; clear hsn
      obtain ⟨R, hR⟩ : ∃ R, R = feedBytes (BitVec.allOnes 32) (s.data.toList.take k) := ⟨_, rfl⟩
      rw [← hR] at HS ⊢
      have HR := Lib.hid hR; clear hR
      go_wp2
      go_loop [3, 5] (fun x j => ∃ b : Nat, b ≤ 8 ∧ j = .int .i64 b ∧ x = .int .u32 ((feed R ((bitsOf s[k]).take b)).toNat : Int)) (fun _ j => 8 - (intOf j).toNat)
      case atStart => exact ⟨0, Nat.zero_le _, rfl, rfl⟩
      case round =>
        obtain ⟨b, hb, rfl, rfl⟩ := hrel
        obtain ⟨Q, hQ⟩ : ∃ Q, Q = feed R ((bitsOf s[k]).take b) := ⟨_, rfl⟩
        rw [← hQ]
        have HQ := Lib.hid hQ; clear hQ
        have q1 : Q.toNat < 4294967296 := Q.isLt
        by_cases h8 : b < 8
        · go_wp2
          · have ht := bit_hit Q s[k] b (by assumption)
            go_round
            case rel => exact ⟨b + 1, by omega, by go_num, by rw [ht, feed_bits R s[k] b h8, HQ.out]⟩
            case measure => simp [intOf]; omega
          · have ht := bit_miss Q s[k] b (by assumption)
            go_round
            case rel => exact ⟨b + 1, by omega, by go_num, by rw [ht, feed_bits R s[k] b h8, HQ.out]⟩
            case measure => simp [intOf]; omega
        · go_wp2
          go_round
          case rel => exact ⟨k + 1, by omega, by go_num, by rw [HS.out, HQ.out, feed_all R s[k] b (by omega)]⟩
          case measure => simp [intOf]; omega
    · have hb : (feedBytes (BitVec.allOnes 32) (s.data.toList.take k)).toNat < 4294967296 := BitVec.isLt _
      go_wp2
      go_ret
      exact ⟨ret_u32 (by rw [List.take_of_length_le (by simp; omega)]; exact not_val _), rfl⟩
end Go.Proofs.YtgkpbchpjgkblaaDoor
