/-
  THE TABLE OF NIBBLES, AND THE REGISTER IN THE WALK's SPELLING: a byte is fed by two looks into the table; the same bit by bit, as the document has it.
-/
import Derived.Test.YtpoagfldekppkaaDoorCrc
import Derived.Laws.BitsAllLaws
namespace Go.Proofs.YtpoagfldekppkaaDoor
open Crc

def nibs : List Int := [0, 498536548, 997073096, 651767980, 1994146192, 1802195444, 1303535960, 1342533948, 3988292384, 4027552580, 3604390888, 3412177804, 2607071920, 2262029012, 2685067896, 3183342108]

theorem Tn_xor : ∀ (n : Nat) (a b : BitVec 32), Tn n (a ^^^ b) = Tn n a ^^^ Tn n b
  | 0, _, _ => rfl
  | n + 1, a, b => by
    show Tn n (T (a ^^^ b)) = Tn n (T a) ^^^ Tn n (T b)
    rw [T_xor, Tn_xor n]

theorem Tn_add : ∀ (m n : Nat) (a : BitVec 32), Tn (m + n) a = Tn n (Tn m a)
  | 0, n, a => by rw [Nat.zero_add]; rfl
  | m + 1, n, a => by
    rw [show m + 1 + n = (m + n) + 1 from by omega]
    exact Tn_add m n (T a)

theorem T_shl_at (y : BitVec 32) (j : Nat) (hj : j < 4) (h : ∀ i, 28 ≤ i → y.getLsbD i = false) : T (y <<< (j + 1)) = y <<< j := by
  have e : y <<< (j + 1) = (y <<< j) <<< 1 := by
    apply BitVec.eq_of_getLsbD_eq
    intro i hi
    simp only [BitVec.getLsbD_shiftLeft]
    by_cases h1 : i < j + 1
    · by_cases h0 : i < 1
      · simp [h0, h1]
      · have : i - 1 < j := by omega
        simp [h1, this]
    · have a1 : ¬ i < 1 := by omega
      have a2 : ¬ i - 1 < j := by omega
      have a3 : i - 1 < 32 := by omega
      have a4 : i - (j + 1) = i - 1 - j := by omega
      simp [h1, a1, a2, a3, a4]
  rw [e]
  apply T_shl
  simp only [BitVec.getLsbD_shiftLeft]
  rw [h (31 - j) (by omega)]
  simp

theorem T4_high (y : BitVec 32) (h : ∀ i, 28 ≤ i → y.getLsbD i = false) : Tn 4 (y <<< 4) = y := by
  show T (T (T (T (y <<< 4)))) = y
  rw [T_shl_at y 3 (by omega) h, T_shl_at y 2 (by omega) h, T_shl_at y 1 (by omega) h, T_shl_at y 0 (by omega) h]
  simp

theorem T4_low : ∀ k : Fin 16, (Tn 4 (BitVec.ofNat 32 k.val)).toNat = (nibs.getD k.val 0).toNat ∧ 0 ≤ nibs.getD k.val 0 ∧ nibs.getD k.val 0 < 4294967296 := by decide

theorem nib_split (r : BitVec 32) : r = ((r >>> 4) <<< 4) ^^^ (BitVec.ofNat 32 (r.toNat % 16)) := by
  apply BitVec.eq_of_getLsbD_eq
  intro i hi
  simp only [BitVec.getLsbD_xor, BitVec.getLsbD_shiftLeft, BitVec.getLsbD_ushiftRight, BitVec.getLsbD_ofNat]
  rw [show (16 : Nat) = 2 ^ 4 from rfl, Nat.testBit_mod_two_pow]
  by_cases h : i < 4
  · simp [h, hi, BitVec.getLsbD]
  · have : 4 + (i - 4) = i := by omega
    simp [h, hi, this]

theorem T4 (r : BitVec 32) : (Tn 4 r).toNat = (r.toNat / 16) ^^^ (nibs.getD (r.toNat % 16) 0).toNat := by
  have e := nib_split r
  have hk : r.toNat % 16 < 16 := Nat.mod_lt _ (by omega)
  have lo := (T4_low ⟨r.toNat % 16, hk⟩).1
  conv => lhs; rw [e]
  rw [Tn_xor, T4_high _ (by intro i hi; rw [BitVec.getLsbD_ushiftRight]; exact BitVec.getLsbD_of_ge _ _ (by omega)), BitVec.toNat_xor]
  simp only at lo
  rw [lo, BitVec.toNat_ushiftRight, Nat.shiftRight_eq_div_pow]

theorem W_byte (c : UInt8) : W (bitsOf c) = BitVec.ofNat 32 c.toNat := by
  apply BitVec.eq_of_getLsbD_eq
  intro i hi
  have hl : (bitsOf c).length = 8 := by simp [bitsOf]
  rw [BitVec.getLsbD_ofNat]
  by_cases h : i < 8
  · rw [W_get _ _ (by omega) hi]
    simp [bitsOf, h, hi]
  · rw [W_high _ _ (by omega)]
    have : c.toNat < 2 ^ i := Nat.lt_of_lt_of_le c.toNat_lt (Nat.pow_le_pow_right (by omega) (by omega))
    simp [Nat.testBit_lt_two_pow this]

theorem feedByte_T (r : BitVec 32) (c : UInt8) : feedByte r c = Tn 4 (Tn 4 (r ^^^ BitVec.ofNat 32 c.toNat)) := by
  have hl : (bitsOf c).length = 8 := by simp [bitsOf]
  unfold feedByte
  rw [feed_word _ _ (by omega), hl, W_byte, ← Tn_add]

theorem nib_bd (k : Nat) (h : k < 16) : 0 ≤ nibs.getD k 0 ∧ nibs.getD k 0 < 4294967296 := (T4_low ⟨k, h⟩).2

theorem u32_and15 (x : Nat) (hx : x < 4294967296) : bits .and .u32 (x : Int) 15 = ((x % 16 : Nat) : Int) := by
  rw [show (15 : Int) = ((15 : Nat) : Int) from rfl, u32_and_nat x 15 hx (by omega)]
  rw [show (15 : Nat) = 2 ^ 4 - 1 from rfl, Nat.and_two_pow_sub_one_eq_mod]

theorem u32_T4 (r : BitVec 32) : bits .xor .u32 ((r.toNat : Int) / 16) (nibs.getD (r.toNat % 16) 0) = ((Tn 4 r).toNat : Int) := by
  have hk : r.toNat % 16 < 16 := Nat.mod_lt _ (by omega)
  have hb := nib_bd _ hk
  rw [u32_xor _ _ (by omega) (by have := r.isLt; omega) hb.1 hb.2, T4]
  congr 2

/-- A BYTE's STEP, in the walk's spelling: the register behind the byte was added, the two places in the table, the register between them. -/
theorem step_eqs (r : BitVec 32) (c : UInt8) : ∃ (x y : BitVec 32),
    bits .xor .u32 (r.toNat : Int) ((c.toNat : Int) % 4294967296) = (x.toNat : Int) ∧
    bits .and .u32 (x.toNat : Int) 15 = ((x.toNat % 16 : Nat) : Int) ∧ x.toNat % 16 < 16 ∧
    bits .xor .u32 ((x.toNat : Int) / 16) (nibs.getD (x.toNat % 16) 0) = (y.toNat : Int) ∧
    bits .and .u32 (y.toNat : Int) 15 = ((y.toNat % 16 : Nat) : Int) ∧ y.toNat % 16 < 16 ∧
    bits .xor .u32 ((y.toNat : Int) / 16) (nibs.getD (y.toNat % 16) 0) = ((feedByte r c).toNat : Int) := by
  refine ⟨r ^^^ BitVec.ofNat 32 c.toNat, Tn 4 (r ^^^ BitVec.ofNat 32 c.toNat), ?_, u32_and15 _ (BitVec.isLt _), Nat.mod_lt _ (by omega), u32_T4 _, u32_and15 _ (BitVec.isLt _), Nat.mod_lt _ (by omega), ?_⟩
  · have hc : c.toNat < 256 := c.toNat_lt
    rw [show (c.toNat : Int) % 4294967296 = (c.toNat : Int) from by omega, u32_xor_nat _ _ r.isLt (by omega), BitVec.toNat_xor, BitVec.toNat_ofNat, Nat.mod_eq_of_lt (by omega)]
  · rw [u32_T4, feedByte_T]

theorem feedBytes_snoc (r : BitVec 32) (l : List UInt8) (c : UInt8) : feedBytes r (l ++ [c]) = feedByte (feedBytes r l) c := by
  unfold feedBytes; rw [List.foldl_append]; rfl
theorem feedBytes_append (r : BitVec 32) (a b : List UInt8) : feedBytes r (a ++ b) = feedBytes (feedBytes r a) b := by
  unfold feedBytes; rw [List.foldl_append]
theorem take_snoc (s : ByteArray) (k : Nat) (h : k < s.size) : s.data.toList.take (k + 1) = s.data.toList.take k ++ [s[k]] := by
  rw [List.take_succ_eq_append_getElem (by simpa using h)]; rfl
end Go.Proofs.YtpoagfldekppkaaDoor
