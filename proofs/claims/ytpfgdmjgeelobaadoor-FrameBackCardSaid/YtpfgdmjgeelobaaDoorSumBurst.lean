/-
  A BURST IS TOLD: bytes that a burst turned have another sum; what is sealed isn't any more. No program in sight.
-/
import Derived.Test.YtpfgdmjgeelobaaDoorSumTurn
namespace Go.Proofs.YtpfgdmjgeelobaaDoor
open Go.RowKit Crc

theorem bitsOf_len (c : UInt8) : (bitsOf c).length = 8 := by simp [bitsOf]
theorem bits_len : ∀ l : List UInt8, (bitsAll l).length = 8 * l.length
  | [] => rfl
  | c :: l => by
    show (bitsOf c ++ bitsAll l).length = _
    rw [List.length_append, bitsOf_len, bits_len l, List.length_cons]; omega
theorem bits_get : ∀ (l : List UInt8) (j : Nat), j < 8 * l.length → (bitsAll l).getD j false = (l.getD (j / 8) 0).toNat.testBit (j % 8)
  | [], j, h => by simp at h
  | c :: l, j, h => by
    have e : bitsAll (c :: l) = bitsOf c ++ bitsAll l := rfl
    rw [e, List.getD_eq_getElem?_getD]
    by_cases hj : j < 8
    · rw [List.getElem?_append_left (by rw [bitsOf_len]; exact hj)]
      have h0 : j / 8 = 0 := by omega
      have h1 : j % 8 = j := by omega
      rw [h0, h1]
      simp [bitsOf, hj]
    · rw [List.getElem?_append_right (by rw [bitsOf_len]; omega), bitsOf_len]
      rw [List.length_cons] at h
      have ih := bits_get l (j - 8) (by omega)
      rw [List.getD_eq_getElem?_getD] at ih
      rw [ih]
      have h0 : j / 8 = (j - 8) / 8 + 1 := by omega
      have h1 : j % 8 = (j - 8) % 8 := by omega
      rw [h0, h1]
      simp
theorem bits_inj {x y : List UInt8} (hl : x.length = y.length) (h : bitsAll x = bitsAll y) : x = y := by
  apply List.ext_getElem hl
  intro i h1 h2
  apply UInt8.toNat_inj.1
  apply Nat.eq_of_testBit_eq
  intro m
  by_cases hm : m < 8
  · have a := bits_get x (8 * i + m) (by omega)
    have b := bits_get y (8 * i + m) (by omega)
    rw [h, b] at a
    have e0 : (8 * i + m) / 8 = i := by omega
    have e1 : (8 * i + m) % 8 = m := by omega
    rw [e0, e1] at a
    simpa [List.getD_eq_getElem?_getD, h1, h2] using a.symm
  · have p : ∀ c : UInt8, c.toNat.testBit m = false := fun c => Nat.testBit_lt_two_pow (Nat.lt_of_lt_of_le c.toNat_lt (Nat.pow_le_pow_right (by omega) (show 8 ≤ m by omega)))
    rw [p, p]

theorem turn1_out (at_ b i : Nat) (l : List UInt8) (j : Nat) (hj : j < 8 * l.length) (hne : j ≠ at_ + i) : (bitsAll (turn1 at_ b i l)).getD j false = (bitsAll l).getD j false := by
  rw [bits_get _ _ (by rw [turn1_len]; exact hj), bits_get _ _ hj]
  unfold turn1
  split
  · rename_i h
    by_cases hq : j / 8 = (at_ + i) / 8
    · have hm : j % 8 ≠ (at_ + i) % 8 := fun e => hne (by omega)
      have hlt : (at_ + i) / 8 < l.length := by omega
      rw [hq]
      simp only [List.getD_eq_getElem?_getD, List.getElem?_set, hlt, if_true, Option.getD_some]
      rw [UInt8.toNat_xor, Nat.testBit_xor]
      have h8 : 2 ^ ((at_ + i) % 8) < 256 := by
        have : (2 : Nat) ^ ((at_ + i) % 8) < 2 ^ 8 := Nat.pow_lt_pow_right (by omega) (Nat.mod_lt _ (by omega))
        omega
      rw [UInt8.toNat_ofNat', Nat.mod_eq_of_lt h8, Nat.testBit_two_pow]
      simp [Ne.symm hm]
    · simp [List.getD_eq_getElem?_getD, Ne.symm hq]
  · rfl
theorem turnTo_out (at_ b : Nat) (l : List UInt8) (j : Nat) (hj : j < 8 * l.length) : ∀ n, (j < at_ ∨ at_ + n ≤ j) → (bitsAll (turnTo at_ b n l)).getD j false = (bitsAll l).getD j false
  | 0, _ => rfl
  | n + 1, h => by
    rw [turnTo, turn1_out at_ b n _ j (by rw [turnTo_len]; exact hj) (by omega), turnTo_out at_ b l j hj n (by omega)]

theorem outside_eq (r : BitVec 32) (x y : List Bool) (a : Nat) (hl : x.length = y.length) (ho : ∀ j, j < x.length → (j < a ∨ a + 32 ≤ j) → x.getD j false = y.getD j false) (h : feed r x = feed r y) : x = y := by
  have cut : ∀ z : List Bool, z = z.take a ++ (z.drop a).take 32 ++ z.drop (a + 32) := fun z => by
    rw [List.append_assoc, ← List.drop_drop, List.take_append_drop, List.take_append_drop]
  have get : ∀ (z : List Bool) (j : Nat) (hj : j < z.length), z.getD j false = z[j] := fun z j hj => by simp [List.getD_eq_getElem?_getD, hj]
  have h1 : x.take a = y.take a := by
    apply List.ext_getElem (by simp [hl])
    intro i i1 i2
    rw [List.length_take] at i1 i2
    have := ho i (by omega) (.inl (by omega))
    rw [get x i (by omega), get y i (by omega)] at this
    simpa using this
  have h2 : x.drop (a + 32) = y.drop (a + 32) := by
    apply List.ext_getElem (by simp [hl])
    intro i i1 i2
    rw [List.length_drop] at i1 i2
    have := ho (a + 32 + i) (by omega) (.inr (by omega))
    rw [get x _ (by omega), get y _ (by omega)] at this
    simpa using this
  rw [cut x, cut y, h1, h2] at h
  have hw := feed_window r (y.take a) ((x.drop a).take 32) ((y.drop a).take 32) (y.drop (a + 32)) (by simp [hl]) (by rw [List.length_take]; omega) h
  rw [cut x, cut y, h1, h2, hw]

theorem turn_feed (r : BitVec 32) (at_ b : Nat) (l : List UInt8) (h : feedBytes r (turnTo at_ b 32 l) = feedBytes r l) : turnTo at_ b 32 l = l := by
  rw [feedBytes_bits, feedBytes_bits] at h
  have hl := turnTo_len at_ b 32 l
  apply bits_inj hl
  apply outside_eq r _ _ at_ (by rw [bits_len, bits_len, hl]) _ h
  intro j hj ho
  rw [bits_len, hl] at hj
  exact turnTo_out at_ b l j hj 32 ho

/-- A BURST TURNS THE SUM. -/
theorem turn_crc (at_ b : Nat) (l : List UInt8) (h : crc (turnTo at_ b 32 l) = crc l) : turnTo at_ b 32 l = l := by
  unfold crc at h
  have := congrArg (fun z => ~~~ z) h
  simp only [BitVec.not_not] at this
  exact turn_feed _ at_ b l this

/-! ### what is sealed -/
theorem laid_bytes (l : List UInt8) : (laidStr l).data.toList = [UInt8.ofNat ((crc l).toNat % 256), UInt8.ofNat ((crc l).toNat / 256 % 256), UInt8.ofNat ((crc l).toNat / 65536 % 256), UInt8.ofNat ((crc l).toNat / 16777216)] := by
  have e : ∀ n : Nat, ((n : Int)).toNat = n := fun n => Int.toNat_natCast n
  have e1 : (((crc l).toNat : Int) % 256).toNat = (crc l).toNat % 256 := by omega
  have e2 : (((crc l).toNat : Int) / 256 % 256).toNat = (crc l).toNat / 256 % 256 := by omega
  have e3 : (((crc l).toNat : Int) / 65536 % 256).toNat = (crc l).toNat / 65536 % 256 := by omega
  have e4 : (((crc l).toNat : Int) / 16777216).toNat = (crc l).toNat / 16777216 := by omega
  simp [laidStr, strOfNums, e1, e2, e3, e4]

theorem laid_W (l : List UInt8) : W (bitsAll (laidStr l).data.toList) = crc l := by
  have hlen : (laidStr l).data.toList.length = 4 := by rw [laid_bytes]; rfl
  apply BitVec.eq_of_getLsbD_eq
  intro i hi
  rw [W_get _ _ (by rw [bits_len, hlen]; omega) hi, bits_get _ _ (by rw [hlen]; omega), laid_bytes]
  have hc : (crc l).toNat < 4294967296 := (crc l).isLt
  have key : ∀ k m : Nat, m < 8 → ((crc l).toNat / 2 ^ (8 * k) % 256).testBit m = (crc l).getLsbD (8 * k + m) := fun k m hm => by
    rw [show (256 : Nat) = 2 ^ 8 from rfl, Nat.testBit_mod_two_pow, Nat.testBit_div_two_pow, BitVec.getLsbD]
    simp [hm, Nat.add_comm]
  have hi4 : i / 8 = 0 ∨ i / 8 = 1 ∨ i / 8 = 2 ∨ i / 8 = 3 := by omega
  have hm : i % 8 < 8 := Nat.mod_lt _ (by omega)
  have hid : 8 * (i / 8) + i % 8 = i := by omega
  rcases hi4 with h | h | h | h
  · have k0 := key 0 (i % 8) hm
    rw [h] at hid
    rw [hid] at k0
    rw [h, ← k0]
    simp
  · have k0 := key 1 (i % 8) hm
    rw [h] at hid
    rw [hid] at k0
    rw [h, ← k0]
    simp
  · have k0 := key 2 (i % 8) hm
    rw [h] at hid
    rw [hid] at k0
    rw [h, ← k0]
    simp
  · have k0 := key 3 (i % 8) hm
    rw [h] at hid
    rw [hid] at k0
    have : (crc l).toNat / 16777216 < 256 := by omega
    rw [h, ← k0]
    simp

theorem residue (l : List UInt8) : feedBytes (BitVec.allOnes 32) (l ++ (laidStr l).data.toList) = Tn 32 (BitVec.allOnes 32) := by
  have hlen : (laidStr l).data.toList.length = 4 := by rw [laid_bytes]; rfl
  rw [feedBytes_append, feedBytes_bits _ (feedBytes _ l), feed_word _ _ (by rw [bits_len, hlen]; omega), laid_W, bits_len, hlen]
  congr 1
  unfold crc
  rw [← BitVec.allOnes_xor, BitVec.xor_comm (BitVec.allOnes 32), ← BitVec.xor_assoc, BitVec.xor_self, BitVec.zero_xor]

theorem sealed_split (s : ByteArray) (h : isSealed s = true) : s.data.toList = s.data.toList.take (s.size - 4) ++ (laidStr (s.data.toList.take (s.size - 4))).data.toList := by
  unfold isSealed at h
  rw [Bool.and_eq_true, decide_eq_true_iff, beq_iff_eq, ByteArray.toList_eq, ByteArray.toList_eq] at h
  have hs : s.data.toList.length = s.size := Array.length_toList
  rw [h.2, ByteArray.data_extract, Array.toList_extract, List.extract_eq_take_drop]
  have e : List.take (s.size - (s.size - 4)) (List.drop (s.size - 4) s.data.toList) = List.drop (s.size - 4) s.data.toList := List.take_of_length_le (by rw [List.length_drop]; omega)
  rw [e, List.take_append_drop]

/-- WHAT IS SEALED ISN'T ANY MORE, where a burst turned something. -/
theorem turn_seal (at_ b : Nat) (l : List UInt8) (h : isSealed ⟨(turnTo at_ b 32 (sealStr l).data.toList).toArray⟩ = true) : turnTo at_ b 32 (sealStr l).data.toList = (sealStr l).data.toList := by
  have h1 := sealed_split _ h
  simp only at h1
  have hd : (sealStr l).data.toList = l ++ (laidStr l).data.toList := by unfold sealStr; rw [ByteArray.data_append, Array.toList_append]
  apply turn_feed (BitVec.allOnes 32)
  rw [h1, residue]
  conv => rhs; rw [hd]
  rw [residue]

theorem turn_place (c : Int) (n : Int) (h : 0 < n) : ∃ d : Nat, (IntKind.u64.wrap c).tmod n = (d : Int) ∧ (d : Int) < n := by
  have h0 : 0 ≤ IntKind.u64.wrap c := by rw [IntKind.wrap_u64]; omega
  rw [Int.tmod_eq_emod_of_nonneg h0]
  have h2 := Int.emod_nonneg (IntKind.u64.wrap c) (b := n) (by omega)
  have h3 := Int.emod_lt_of_pos (IntKind.u64.wrap c) h
  exact ⟨((IntKind.u64.wrap c) % n).toNat, by omega, by omega⟩

theorem sealed_parts (l : List UInt8) (G : ByteArray) (at_ b : Nat) (hG : G = ⟨(turnTo at_ b 32 (sealStr l).data.toList).toArray⟩) :
    (G = sealStr l ∧ (openRes G).2 = true) ∨ ((G.toList == (sealStr l).toList) = false ∧ (openRes G).2 = false) := by
  by_cases h : turnTo at_ b 32 (sealStr l).data.toList = (sealStr l).data.toList
  · left
    have : G = sealStr l := by rw [hG, h]
    exact ⟨this, by rw [this, openRes_seal]⟩
  · right
    have hd : G.data.toList = turnTo at_ b 32 (sealStr l).data.toList := by rw [hG]
    constructor
    · rw [beq_eq_false_iff_ne, ByteArray.toList_eq, ByteArray.toList_eq, hd]; exact h
    · have hn : isSealed G = false := by
        cases hs : isSealed G
        · rfl
        · exact absurd (turn_seal at_ b l (by rw [← hG]; exact hs)) h
      simp [openRes, hn]
end Go.Proofs.YtpfgdmjgeelobaaDoor
