/-
  CRC-32 AS A REGISTER OF BITS: a step is linear and can be undone; rows of bits that part only inside a window of at most 32 are fed to unlike registers. No program in sight.
  THE TABLE OF NIBBLES, AND THE REGISTER IN THE WALK's SPELLING: a byte is fed by two looks into the table; the same bit by bit, as the document has it.
  THE CONTRACT OF sum.shift: the register behind a text's bytes is the one of the document, bit by bit, where the table of nibbles holds its sixteen words.
  THE CONTRACTS OF sum.Of, quadrigaref02.Sum AND quadrigalaw02.join: the sum of texts, one behind the other; the document's sum, bit by bit, is the same.
  WHAT IS NEEDED OF THE DEVICE'S TEXTS, AS FAR AS THIS SEAT HAS ITS FUNCTIONS (put together by wip/only-there.py).
-/
import Derived.Laws.BitsAllLaws
import Derived.Test.YtkemhkmabbladaaGreatDoorChecked
import Derived.WalkKit
import Derived.WalkLawsBesides
import Derived.Lib.Hide
import Derived.LoopN
namespace Go.Proofs.YtkemhkmabbladaaGreatDoor.Crc
/-- one bit's step of the register -/
def T (r : BitVec 32) : BitVec 32 := (r >>> 1) ^^^ (if r.getLsbD 0 then 0xedb88320#32 else 0#32)
def Tn : Nat → BitVec 32 → BitVec 32
  | 0, r => r
  | n + 1, r => Tn n (T r)
def bit1 (b : Bool) : BitVec 32 := if b then 1#32 else 0#32
def feedBit (r : BitVec 32) (b : Bool) : BitVec 32 := T (r ^^^ bit1 b)
def feed (r : BitVec 32) (l : List Bool) : BitVec 32 := l.foldl feedBit r
/-- bits as a word -/
def W : List Bool → BitVec 32
  | [] => 0#32
  | b :: l => bit1 b ^^^ (W l <<< 1)

theorem T_xor (a b : BitVec 32) : T (a ^^^ b) = T a ^^^ T b := by
  unfold T
  apply BitVec.eq_of_getLsbD_eq
  intro i hi
  simp only [BitVec.getLsbD_xor, BitVec.getLsbD_ushiftRight]
  cases ha : a.getLsbD 0 <;> cases hb : b.getLsbD 0 <;> simp <;> (try (cases a.getLsbD (1 + i) <;> cases b.getLsbD (1 + i) <;> simp))

theorem T_zero : T 0#32 = 0#32 := by decide

theorem T_ker (x : BitVec 32) (h : T x = 0#32) : x = 0#32 := by
  have h31 : (T x).getLsbD 31 = false := by rw [h]; simp
  have h0 : x.getLsbD 0 = false := by
    unfold T at h31
    simp only [BitVec.getLsbD_xor, BitVec.getLsbD_ushiftRight] at h31
    cases hx : x.getLsbD 0
    · rfl
    · rw [hx] at h31
      have : x.getLsbD (1 + 31) = false := BitVec.getLsbD_of_ge x 32 (by omega)
      rw [this] at h31
      revert h31; decide
  apply BitVec.eq_of_getLsbD_eq
  intro i hi
  simp only [BitVec.getLsbD_zero]
  cases i with
  | zero => exact h0
  | succ j =>
    have hj : (T x).getLsbD j = false := by rw [h]; simp
    unfold T at hj
    rw [h0] at hj
    simp only [BitVec.getLsbD_xor, BitVec.getLsbD_ushiftRight] at hj
    simpa [Nat.add_comm] using hj

theorem xor_eq_zero {a b : BitVec 32} (h : a ^^^ b = 0#32) : a = b := by
  have : a ^^^ (a ^^^ b) = a := by rw [h]; simp
  rw [← BitVec.xor_assoc, BitVec.xor_self, BitVec.zero_xor] at this
  exact this.symm

theorem T_inj {a b : BitVec 32} (h : T a = T b) : a = b := by
  apply xor_eq_zero
  apply T_ker
  rw [T_xor, h, BitVec.xor_self]

theorem Tn_inj : ∀ (n : Nat) {a b : BitVec 32}, Tn n a = Tn n b → a = b
  | 0, _, _, h => h
  | n + 1, _, _, h => T_inj (Tn_inj n h)

theorem feedBit_inj {a b : BitVec 32} {c : Bool} (h : feedBit a c = feedBit b c) : a = b := by
  have := T_inj h
  have h2 : (a ^^^ bit1 c) ^^^ bit1 c = (b ^^^ bit1 c) ^^^ bit1 c := by rw [this]
  simpa [BitVec.xor_assoc] using h2

theorem feed_inj : ∀ (l : List Bool) {a b : BitVec 32}, feed a l = feed b l → a = b
  | [], _, _, h => h
  | _ :: l, _, _, h => feedBit_inj (feed_inj l h)

theorem feed_append (r : BitVec 32) (a b : List Bool) : feed r (a ++ b) = feed (feed r a) b := by
  unfold feed; rw [List.foldl_append]

theorem T_shl (x : BitVec 32) (h : x.getLsbD 31 = false) : T (x <<< 1) = x := by
  unfold T
  have h0 : (x <<< 1).getLsbD 0 = false := by simp
  rw [h0]
  apply BitVec.eq_of_getLsbD_eq
  intro i hi
  simp only [BitVec.getLsbD_xor, BitVec.getLsbD_ushiftRight, BitVec.getLsbD_shiftLeft]
  by_cases hj : i = 31
  · subst hj
    rw [h]; rfl
  · have : 1 + i < 32 := by omega
    simp [this]

theorem W_high : ∀ (l : List Bool) (i : Nat), l.length ≤ i → (W l).getLsbD i = false
  | [], i, _ => by simp [W]
  | b :: l, i, h => by
    simp only [List.length_cons] at h
    simp only [W, BitVec.getLsbD_xor, BitVec.getLsbD_shiftLeft]
    have h1 : (bit1 b).getLsbD i = false := by
      unfold bit1
      have hi : i ≠ 0 := by omega
      cases b <;> simp [BitVec.getLsbD_one, hi]
    have h2 := W_high l (i - 1) (by omega)
    simp [h1, h2]

theorem W_get : ∀ (l : List Bool) (i : Nat), i < l.length → i < 32 → (W l).getLsbD i = l.getD i false
  | [], i, h, _ => by simp at h
  | b :: l, 0, h, _ => by
    simp only [W, BitVec.getLsbD_xor, BitVec.getLsbD_shiftLeft]
    cases b <;> simp [bit1]
  | b :: l, i + 1, h, hi => by
    simp only [List.length_cons] at h
    simp only [W, BitVec.getLsbD_xor, BitVec.getLsbD_shiftLeft]
    have h1 : (bit1 b).getLsbD (i + 1) = false := by
      unfold bit1
      cases b <;> simp [BitVec.getLsbD_one]
    have h2 := W_get l i (by omega) (by omega)
    rw [h1]
    simp [h2, hi]

theorem W_inj (a b : List Bool) (hl : a.length = b.length) (h32 : a.length ≤ 32) (h : W a = W b) : a = b := by
  apply List.ext_getElem hl
  intro i h1 h2
  have ha := W_get a i h1 (by omega)
  have hb := W_get b i h2 (by omega)
  rw [h, hb] at ha
  simpa [h1, h2] using ha.symm

/-- FEEDING AT MOST 32 BITS is one word added, and as many steps. -/
theorem feed_word : ∀ (l : List Bool) (r : BitVec 32), l.length ≤ 32 → feed r l = Tn l.length (r ^^^ W l)
  | [], r, _ => by simp [feed, Tn, W]
  | b :: l, r, h => by
    simp only [List.length_cons] at h ⊢
    show feed (feedBit r b) l = Tn l.length (T (r ^^^ W (b :: l)))
    rw [feed_word l _ (by omega)]
    congr 1
    have hh := W_high l 31 (by omega)
    rw [W, ← BitVec.xor_assoc, T_xor, T_shl _ hh]
    rfl

/-- A BURST: two rows of bits that part only inside a window of at most 32 are fed to unlike registers, unless they are one. -/
theorem feed_window (r : BitVec 32) (p a b q : List Bool) (hl : a.length = b.length) (h32 : a.length ≤ 32)
    (h : feed r (p ++ a ++ q) = feed r (p ++ b ++ q)) : a = b := by
  rw [feed_append, feed_append, feed_append, feed_append] at h
  have h1 := feed_inj q h
  rw [feed_word a _ h32, feed_word b _ (by omega), hl] at h1
  have h2 := Tn_inj _ h1
  apply W_inj a b hl h32
  have h3 : feed r p ^^^ (feed r p ^^^ W a) = feed r p ^^^ (feed r p ^^^ W b) := by rw [h2]
  simpa [← BitVec.xor_assoc] using h3

/-! ### bytes -/
def bitsOf (c : UInt8) : List Bool := (List.range 8).map fun i => c.toNat.testBit i
def bitsAll (l : List UInt8) : List Bool := l.flatMap bitsOf
def feedByte (r : BitVec 32) (c : UInt8) : BitVec 32 := feed r (bitsOf c)
def feedBytes (r : BitVec 32) (l : List UInt8) : BitVec 32 := l.foldl feedByte r
theorem feedBytes_bits : ∀ (l : List UInt8) (r : BitVec 32), feedBytes r l = feed r (bitsAll l)
  | [], r => rfl
  | c :: l, r => by
    show feedBytes (feedByte r c) l = _
    rw [feedBytes_bits l]
    show _ = feed r (bitsOf c ++ bitsAll l)
    rw [feed_append]; rfl
def crc (l : List UInt8) : BitVec 32 := ~~~ feedBytes (BitVec.allOnes 32) l
end Go.Proofs.YtkemhkmabbladaaGreatDoor.Crc

namespace Go.Proofs.YtkemhkmabbladaaGreatDoor
open Crc

def nibs : List Int := [0, 498536548, 997073096, 651767980, 1994146192, 1802195444, 1303535960, 1342533948, 3988292384, 4027552580, 3604390888, 3412177804, 2607071920, 2262029012, 2685067896, 3183342108]

theorem Tn_xor : ∀ (n : Nat) (a b : BitVec 32), Tn n (a ^^^ b) = Tn n a ^^^ Tn n b
  | 0, _, _ => rfl
  | n + 1, a, b => by
    show Tn n (T (a ^^^ b)) = Tn n (T a) ^^^ Tn n (T b)
    rw [T_xor, Tn_xor n]

theorem Tn_add : ∀ (m n : Nat) (a : BitVec 32), Tn (m + n) a = Tn n (Tn m a)
  | 0, n, a => by rw [Nat.zero_add]; rfl
  | m + 1, n, a => by
    rw [show m + 1 + n = (m + n) + 1 from by omega]
    exact Tn_add m n (T a)

theorem T_shl_at (y : BitVec 32) (j : Nat) (hj : j < 4) (h : ∀ i, 28 ≤ i → y.getLsbD i = false) : T (y <<< (j + 1)) = y <<< j := by
  have e : y <<< (j + 1) = (y <<< j) <<< 1 := by
    apply BitVec.eq_of_getLsbD_eq
    intro i hi
    simp only [BitVec.getLsbD_shiftLeft]
    by_cases h1 : i < j + 1
    · by_cases h0 : i < 1
      · simp [h0, h1]
      · have : i - 1 < j := by omega
        simp [h1, this]
    · have a1 : ¬ i < 1 := by omega
      have a2 : ¬ i - 1 < j := by omega
      have a3 : i - 1 < 32 := by omega
      have a4 : i - (j + 1) = i - 1 - j := by omega
      simp [h1, a1, a2, a3, a4]
  rw [e]
  apply T_shl
  simp only [BitVec.getLsbD_shiftLeft]
  rw [h (31 - j) (by omega)]
  simp

theorem T4_high (y : BitVec 32) (h : ∀ i, 28 ≤ i → y.getLsbD i = false) : Tn 4 (y <<< 4) = y := by
  show T (T (T (T (y <<< 4)))) = y
  rw [T_shl_at y 3 (by omega) h, T_shl_at y 2 (by omega) h, T_shl_at y 1 (by omega) h, T_shl_at y 0 (by omega) h]
  simp

theorem T4_low : ∀ k : Fin 16, (Tn 4 (BitVec.ofNat 32 k.val)).toNat = (nibs.getD k.val 0).toNat ∧ 0 ≤ nibs.getD k.val 0 ∧ nibs.getD k.val 0 < 4294967296 := by decide

theorem nib_split (r : BitVec 32) : r = ((r >>> 4) <<< 4) ^^^ (BitVec.ofNat 32 (r.toNat % 16)) := by
  apply BitVec.eq_of_getLsbD_eq
  intro i hi
  simp only [BitVec.getLsbD_xor, BitVec.getLsbD_shiftLeft, BitVec.getLsbD_ushiftRight, BitVec.getLsbD_ofNat]
  rw [show (16 : Nat) = 2 ^ 4 from rfl, Nat.testBit_mod_two_pow]
  by_cases h : i < 4
  · simp [h, hi, BitVec.getLsbD]
  · have : 4 + (i - 4) = i := by omega
    simp [h, hi, this]

theorem T4 (r : BitVec 32) : (Tn 4 r).toNat = (r.toNat / 16) ^^^ (nibs.getD (r.toNat % 16) 0).toNat := by
  have e := nib_split r
  have hk : r.toNat % 16 < 16 := Nat.mod_lt _ (by omega)
  have lo := (T4_low ⟨r.toNat % 16, hk⟩).1
  conv => lhs; rw [e]
  rw [Tn_xor, T4_high _ (by intro i hi; rw [BitVec.getLsbD_ushiftRight]; exact BitVec.getLsbD_of_ge _ _ (by omega)), BitVec.toNat_xor]
  simp only at lo
  rw [lo, BitVec.toNat_ushiftRight, Nat.shiftRight_eq_div_pow]

theorem W_byte (c : UInt8) : W (bitsOf c) = BitVec.ofNat 32 c.toNat := by
  apply BitVec.eq_of_getLsbD_eq
  intro i hi
  have hl : (bitsOf c).length = 8 := by simp [bitsOf]
  rw [BitVec.getLsbD_ofNat]
  by_cases h : i < 8
  · rw [W_get _ _ (by omega) hi]
    simp [bitsOf, h, hi]
  · rw [W_high _ _ (by omega)]
    have : c.toNat < 2 ^ i := Nat.lt_of_lt_of_le c.toNat_lt (Nat.pow_le_pow_right (by omega) (by omega))
    simp [Nat.testBit_lt_two_pow this]

theorem feedByte_T (r : BitVec 32) (c : UInt8) : feedByte r c = Tn 4 (Tn 4 (r ^^^ BitVec.ofNat 32 c.toNat)) := by
  have hl : (bitsOf c).length = 8 := by simp [bitsOf]
  unfold feedByte
  rw [feed_word _ _ (by omega), hl, W_byte, ← Tn_add]

theorem nib_bd (k : Nat) (h : k < 16) : 0 ≤ nibs.getD k 0 ∧ nibs.getD k 0 < 4294967296 := (T4_low ⟨k, h⟩).2

theorem u32_and15 (x : Nat) (hx : x < 4294967296) : bits .and .u32 (x : Int) 15 = ((x % 16 : Nat) : Int) := by
  rw [show (15 : Int) = ((15 : Nat) : Int) from rfl, u32_and_nat x 15 hx (by omega)]
  rw [show (15 : Nat) = 2 ^ 4 - 1 from rfl, Nat.and_two_pow_sub_one_eq_mod]

theorem u32_T4 (r : BitVec 32) : bits .xor .u32 ((r.toNat : Int) / 16) (nibs.getD (r.toNat % 16) 0) = ((Tn 4 r).toNat : Int) := by
  have hk : r.toNat % 16 < 16 := Nat.mod_lt _ (by omega)
  have hb := nib_bd _ hk
  rw [u32_xor _ _ (by omega) (by have := r.isLt; omega) hb.1 hb.2, T4]
  congr 2

/-- A BYTE's STEP, in the walk's spelling: the register behind the byte was added, the two places in the table, the register between them. -/
theorem step_eqs (r : BitVec 32) (c : UInt8) : ∃ (x y : BitVec 32),
    bits .xor .u32 (r.toNat : Int) ((c.toNat : Int) % 4294967296) = (x.toNat : Int) ∧
    bits .and .u32 (x.toNat : Int) 15 = ((x.toNat % 16 : Nat) : Int) ∧ x.toNat % 16 < 16 ∧
    bits .xor .u32 ((x.toNat : Int) / 16) (nibs.getD (x.toNat % 16) 0) = (y.toNat : Int) ∧
    bits .and .u32 (y.toNat : Int) 15 = ((y.toNat % 16 : Nat) : Int) ∧ y.toNat % 16 < 16 ∧
    bits .xor .u32 ((y.toNat : Int) / 16) (nibs.getD (y.toNat % 16) 0) = ((feedByte r c).toNat : Int) := by
  refine ⟨r ^^^ BitVec.ofNat 32 c.toNat, Tn 4 (r ^^^ BitVec.ofNat 32 c.toNat), ?_, u32_and15 _ (BitVec.isLt _), Nat.mod_lt _ (by omega), u32_T4 _, u32_and15 _ (BitVec.isLt _), Nat.mod_lt _ (by omega), ?_⟩
  · have hc : c.toNat < 256 := c.toNat_lt
    rw [show (c.toNat : Int) % 4294967296 = (c.toNat : Int) from by omega, u32_xor_nat _ _ r.isLt (by omega), BitVec.toNat_xor, BitVec.toNat_ofNat, Nat.mod_eq_of_lt (by omega)]
  · rw [u32_T4, feedByte_T]

theorem feedBytes_snoc (r : BitVec 32) (l : List UInt8) (c : UInt8) : feedBytes r (l ++ [c]) = feedByte (feedBytes r l) c := by
  unfold feedBytes; rw [List.foldl_append]; rfl
theorem feedBytes_append (r : BitVec 32) (a b : List UInt8) : feedBytes r (a ++ b) = feedBytes (feedBytes r a) b := by
  unfold feedBytes; rw [List.foldl_append]
theorem take_snoc (s : ByteArray) (k : Nat) (h : k < s.size) : s.data.toList.take (k + 1) = s.data.toList.take k ++ [s[k]] := by
  rw [List.take_succ_eq_append_getElem (by simpa using h)]; rfl
end Go.Proofs.YtkemhkmabbladaaGreatDoor

namespace Go.Proofs.YtkemhkmabbladaaGreatDoor
open Go.RowKit Crc

/-- The table of nibbles lies in its block. -/
def Tab (w : World) : Prop := ∀ k : Nat, k < 16 → w.cell? ⟨3, k, none⟩ = some (.int .u32 (nibs.getD k 0))

theorem ret_u32 {a b : Int} (h : a = b) : Ending.returned (.int .u32 a) = .returned (.int .u32 b) := by rw [h]

set_option maxHeartbeats 400000 in
theorem shift_any (r : BitVec 32) (s : ByteArray) (w : World) (hs : s.size ≤ maxLen) (ht : Tab w) :
    Calls Tryz.prog 155 #[.int .u32 (r.toNat : Int), .string s] w fun e w' => e = .returned (.int .u32 ((feedBytes r s.data.toList).toNat : Int)) ∧ w = w' := by
  unfold maxLen at hs
  have HT := Lib.hid ht; clear ht
  go_enter Tryz.func155, Tryz.ntmps155
  go_wp2
  go_loop [0, 8] (fun x i => ∃ k : Nat, k ≤ s.size ∧ i = .int .i64 k ∧ x = .int .u32 ((feedBytes r (s.data.toList.take k)).toNat : Int)) (fun _ i => s.size - (intOf i).toNat)
  case atStart => exact ⟨0, Nat.zero_le _, rfl, rfl⟩
  case round =>
    obtain ⟨k, hk, rfl, rfl⟩ := hrel
    by_cases hlt : k < s.size
    · have hsn : feedBytes r (s.data.toList.take (k + 1)) = feedByte (feedBytes r (s.data.toList.take k)) s[k] := by rw [take_snoc s k hlt, feedBytes_snoc]
      have HS := Lib.hid hsn; clear hsn
      obtain ⟨R, hR⟩ : ∃ R, R = feedBytes r (s.data.toList.take k) := ⟨_, rfl⟩
      rw [← hR] at HS ⊢
      have HR := Lib.hid hR; clear hR
      obtain ⟨x, y, e1, e2, b2, e3, e4, b4, e5⟩ := step_eqs R s[k]
      have c1 := HT.out _ b2
      have c2 := HT.out _ b4
      have n1 : x.toNat < 4294967296 := x.isLt
      have n2 : y.toNat < 4294967296 := y.isLt
      obtain ⟨i1, hi1⟩ : ∃ i1, i1 = x.toNat % 16 := ⟨_, rfl⟩
      obtain ⟨i2, hi2⟩ : ∃ i2, i2 = y.toNat % 16 := ⟨_, rfl⟩
      rw [← hi1] at e2 b2 e3 c1
      rw [← hi2] at e4 b4 e5 c2
      clear hi1 hi2
      obtain ⟨v1, hv1⟩ : ∃ v1, v1 = nibs.getD i1 0 := ⟨_, rfl⟩
      obtain ⟨v2, hv2⟩ : ∃ v2, v2 = nibs.getD i2 0 := ⟨_, rfl⟩
      rw [← hv1] at e3 c1
      rw [← hv2] at e5 c2
      clear hv1 hv2
      go_wp2
      go_round
      case rel => exact ⟨k + 1, by omega, by go_num, by rw [HS.out]⟩
      case measure => simp [intOf]; omega
    · go_wp2
      go_ret
      exact ⟨ret_u32 (by rw [List.take_of_length_le (by simp; omega)]), rfl⟩
end Go.Proofs.YtkemhkmabbladaaGreatDoor

namespace Go.Proofs.YtkemhkmabbladaaGreatDoor
open Go.RowKit Crc

/-- A slice of strings that reads as these texts: nothing is asked where there is none. -/
def StrsAt (w : World) (a : Option Addr) (ss : List ByteArray) : Prop :=
  ss = [] ∨ ∃ b off, a = some ⟨b, off, none⟩ ∧ ∀ i, i < ss.length → w.cell? ⟨b, off + i, none⟩ = some (.string (ss.getD i ByteArray.empty))
def joined (ss : List ByteArray) : List UInt8 := ss.flatMap fun s => s.data.toList
def Short (ss : List ByteArray) : Prop := ∀ s ∈ ss, s.size ≤ maxLen

theorem joined_take (ss : List ByteArray) (k : Nat) (h : k < ss.length) : joined (ss.take (k + 1)) = joined (ss.take k) ++ (ss.getD k ByteArray.empty).data.toList := by
  unfold joined
  rw [List.take_succ_eq_append_getElem h, List.flatMap_append]
  simp [List.getD_eq_getElem?_getD, h]

theorem not_u32 (r : BitVec 32) : bits .xor .u32 4294967295 (r.toNat : Int) = ((~~~ r).toNat : Int) := by
  rw [show (4294967295 : Int) = ((4294967295 : Nat) : Int) from rfl, u32_xor_nat _ _ (by omega) r.isLt]
  have h : (~~~ r) = BitVec.allOnes 32 ^^^ r := by rw [BitVec.allOnes_xor]
  rw [h, BitVec.toNat_xor, BitVec.toNat_allOnes]

set_option maxHeartbeats 400000 in
theorem of_any (a : Option Addr) (ss : List ByteArray) (cap : Nat) (w : World) (hs : Short ss) (hn : ss.length ≤ maxLen) (ha : StrsAt w a ss) (ht : Tab w) :
    Calls Tryz.prog 141 #[.slice a ss.length cap] w fun e w' => e = .returned (.int .u32 ((crc (joined ss)).toNat : Int)) ∧ w = w' := by
  unfold maxLen at hn
  have HT := Lib.hid ht; clear ht
  have HA := Lib.hid ha; clear ha
  have HSh := Lib.hid hs; clear hs
  go_enter Tryz.func141, Tryz.ntmps141
  go_wp2
  go_loop [3, 8] (fun x i => ∃ k : Nat, k ≤ ss.length ∧ i = .int .i64 k ∧ x = .int .u32 ((feedBytes (BitVec.allOnes 32) (joined (ss.take k))).toNat : Int)) (fun _ i => ss.length - (intOf i).toNat)
  case atStart => exact ⟨0, Nat.zero_le _, rfl, rfl⟩
  case round =>
    obtain ⟨k, hk, rfl, rfl⟩ := hrel
    obtain ⟨R, hR⟩ : ∃ R, R = feedBytes (BitVec.allOnes 32) (joined (ss.take k)) := ⟨_, rfl⟩
    rw [← hR]
    have HR := Lib.hid hR; clear hR
    by_cases hlt : k < ss.length
    · have hsn : feedBytes (BitVec.allOnes 32) (joined (ss.take (k + 1))) = feedBytes R (ss.getD k ByteArray.empty).data.toList := by rw [joined_take ss k hlt, feedBytes_append, HR.out]
      have hmem : ss.getD k ByteArray.empty ∈ ss := by simp [List.getD_eq_getElem?_getD, hlt]
      obtain ⟨b, off, rfl, hc⟩ : ∃ b off, a = some ⟨b, off, none⟩ ∧ ∀ i, i < ss.length → w.cell? ⟨b, off + i, none⟩ = some (.string (ss.getD i ByteArray.empty)) := by
        rcases HA.out with h | h
        · rw [h] at hlt; simp at hlt
        · exact h
      have hck := hc k hlt
      clear hc
      obtain ⟨s, hs⟩ : ∃ s, s = ss.getD k ByteArray.empty := ⟨_, rfl⟩
      rw [← hs] at hsn hmem hck
      have hsz := HSh.out s hmem
      clear hs
      have HS := Lib.hid hsn; clear hsn
      go_wp2_with (go_at_call 155; refine (shift_any R s _ hsz HT.out).mono ?_; rintro e w' ⟨rfl, rfl⟩)
      go_round
      case rel => exact ⟨k + 1, by omega, by go_num, by rw [HS.out]⟩
      case measure => simp [intOf]; omega
    · go_wp2
      go_ret
      exact ⟨ret_u32 (by rw [HR.out, List.take_of_length_le (by omega)]; exact not_u32 _), rfl⟩
end Go.Proofs.YtkemhkmabbladaaGreatDoor

namespace Go.Proofs.YtkemhkmabbladaaGreatDoor
open Go.RowKit Crc

theorem bit_val (c : UInt8) (b : Nat) : ((c.toNat : Int) / 2 ^ b).tmod 2 % 4294967296 = if c.toNat.testBit b then 1 else 0 := by
  have e : (c.toNat : Int) / 2 ^ b = ((c.toNat / 2 ^ b : Nat) : Int) := by simp
  rw [e, Nat.testBit_eq_decide_div_mod_eq]
  generalize c.toNat / 2 ^ b = d
  rw [Int.tmod_eq_emod_of_nonneg (Int.natCast_nonneg d)]
  by_cases h : d % 2 = 1
  · simp only [h, decide_true, if_true]
    omega
  · simp only [h, decide_false]
    have : d % 2 = 0 := by omega
    simp
    omega

theorem feedBit_val (Q : BitVec 32) (d : Bool) : (feedBit Q d).toNat = if ((Q.toNat % 2 == 1) != d) then (Q.toNat / 2) ^^^ 3988292384 else Q.toNat / 2 := by
  have h0 : (Q ^^^ bit1 d).getLsbD 0 = ((Q.toNat % 2 == 1) != d) := by
    rw [BitVec.getLsbD_xor]
    have : Q.getLsbD 0 = (Q.toNat % 2 == 1) := by rw [BitVec.getLsbD, Nat.testBit_zero]; simp [Bool.beq_eq_decide_eq]
    rw [this]
    cases d <;> simp [bit1]
  have h1 : ((Q ^^^ bit1 d) >>> 1).toNat = Q.toNat / 2 := by
    rw [BitVec.toNat_ushiftRight, BitVec.toNat_xor, Nat.shiftRight_eq_div_pow]
    apply Nat.eq_of_testBit_eq
    intro i
    rw [Nat.testBit_div_two_pow, Nat.testBit_xor]
    have : (bit1 d).toNat.testBit (i + 1) = false := by
      cases d
      · simp [bit1]
      · show Nat.testBit 1 (i + 1) = false
        rw [Nat.testBit_succ]; simp
    rw [this, show (2 : Nat) = 2 ^ 1 from rfl, Nat.testBit_div_two_pow]
    simp
  unfold feedBit T
  rw [BitVec.toNat_xor, h1, h0]
  cases ((Q.toNat % 2 == 1) != d) <;> simp

theorem bit_hit (Q : BitVec 32) (c : UInt8) (b : Nat) (h : ((Q.toNat : Int) % 2 != ((c.toNat : Int) / 2 ^ b).tmod 2 % 4294967296) = true) :
    bits .xor .u32 ((Q.toNat : Int) / 2) 3988292384 = ((feedBit Q (c.toNat.testBit b)).toNat : Int) := by
  rw [bit_val] at h
  have hq : Q.toNat < 4294967296 := Q.isLt
  rw [feedBit_val, if_pos]
  · rw [show (Q.toNat : Int) / 2 = ((Q.toNat / 2 : Nat) : Int) from by omega, show (3988292384 : Int) = ((3988292384 : Nat) : Int) from rfl, u32_xor_nat _ _ (by omega) (by omega)]
  · rw [bne_iff_ne] at h ⊢
    cases hb : c.toNat.testBit b <;> simp [hb] at h ⊢ <;> omega

theorem bit_miss (Q : BitVec 32) (c : UInt8) (b : Nat) (h : ((Q.toNat : Int) % 2 != ((c.toNat : Int) / 2 ^ b).tmod 2 % 4294967296) = false) :
    (Q.toNat : Int) / 2 = ((feedBit Q (c.toNat.testBit b)).toNat : Int) := by
  rw [bit_val] at h
  rw [feedBit_val, if_neg]
  · omega
  · rw [bne_eq_false_iff_eq] at h
    cases hb : c.toNat.testBit b <;> simp [hb] at h ⊢ <;> omega

theorem feed_bits (R : BitVec 32) (c : UInt8) (b : Nat) (h : b < 8) : feed R ((bitsOf c).take (b + 1)) = feedBit (feed R ((bitsOf c).take b)) (c.toNat.testBit b) := by
  have hl : (bitsOf c).length = 8 := by simp [bitsOf]
  rw [List.take_succ_eq_append_getElem (by omega), feed_append]
  show feedBit _ _ = _
  congr 1
  simp [bitsOf]

theorem feed_all (R : BitVec 32) (c : UInt8) (b : Nat) (h : 8 ≤ b) : feed R ((bitsOf c).take b) = feedByte R c := by
  have hl : (bitsOf c).length = 8 := by simp [bitsOf]
  rw [List.take_of_length_le (by omega)]; rfl

theorem not_val (r : BitVec 32) : (4294967295 : Int) - (r.toNat : Int) = ((~~~ r).toNat : Int) := by
  have := r.isLt
  rw [BitVec.toNat_not]; omega

/-- string(b) of four bytes in the block that was laid last. -/
theorem four_bytes (T : TypeId) (x0 x1 x2 x3 : Int) (W : World) :
    (convert 134 9 (.slice (some ⟨W.heap.size, 0, none⟩) 4 4)).run Tryz.prog (W.alloc (.cells #[.int .u8 x0, .int .u8 x1, .int .u8 x2, .int .u8 x3] T)) =
      .ok (.string (strOfNums [x0, x1, x2, x3])) (W.alloc (.cells #[.int .u8 x0, .int .u8 x1, .int .u8 x2, .int .u8 x3] T)) := by
  refine run_convert_bytes_arg _ 134 5 Tryz.underlying134 Tryz.underlying5 _ _ _ _ [x0, x1, x2, x3] rfl ?_ 9 Tryz.underlying9
  intro i hi
  match i, hi with
  | 0, _ => simp [World.cell?_alloc_at]
  | 1, _ => simp [World.cell?_alloc_at]
  | 2, _ => simp [World.cell?_alloc_at]
  | 3, _ => simp [World.cell?_alloc_at]

/-- The sum of bytes, laid: the lowest byte first. -/
def laidStr (l : List UInt8) : ByteArray := strOfNums [((crc l).toNat : Int) % 256, ((crc l).toNat : Int) / 256 % 256, ((crc l).toNat : Int) / 65536 % 256, ((crc l).toNat : Int) / 16777216]

theorem ret_str {a b : ByteArray} (h : a = b) : Ending.returned (.string a) = .returned (.string b) := by rw [h]

set_option maxHeartbeats 400000 in
theorem laid_any (a : Option Addr) (ss : List ByteArray) (cap : Nat) (w : World) (hs : Short ss) (hn : ss.length ≤ maxLen) (ha : StrsAt w a ss) (ht : Tab w) :
    Calls Tryz.prog 121 #[.slice a ss.length cap] w fun e w' => e = .returned (.string (laidStr (joined ss))) ∧ Below w.heap.size w w' := by
  have kc := fun x0 x1 x2 x3 W => four_bytes 191 x0 x1 x2 x3 W
  go_enter Tryz.func121, Tryz.ntmps121
  go_wp2_with (go_at_call 141; refine (of_any a ss cap _ hs hn ha ht).mono ?_; rintro e w' ⟨rfl, rfl⟩)
  refine wp_loop_rounds 5 ?_
  rw [rounds_succ]; go_wp2
  rw [rounds_succ]; go_wp2
  rw [rounds_succ]; go_wp2
  rw [rounds_succ]; go_wp2
  rw [rounds_succ]; go_wp2
  go_ret
  exact ⟨ret_str rfl, (Below.refl _ _).alloc (Nat.le_refl _) _⟩

theorem cell_lt {w : World} {b off : Nat} {v : Value} (h : w.cell? ⟨b, off, none⟩ = some v) : b < w.heap.size := by
  rcases Nat.lt_or_ge b w.heap.size with h1 | h1
  · exact h1
  · simp [World.cell?, Array.getElem?_eq_none h1] at h
theorem Tab.below {w w' : World} (h : Tab w) (hb : Below w.heap.size w w') : Tab w' := fun k hk => by
  have h0 := cell_lt (h k hk)
  rw [hb.cell (p := ⟨3, k, none⟩) h0]; exact h k hk
theorem StrsAt.below {w w' : World} {a : Option Addr} {ss : List ByteArray} (h : StrsAt w a ss) (hb : Below w.heap.size w w') : StrsAt w' a ss := by
  rcases h with h | ⟨b, off, e, h⟩
  · exact .inl h
  · refine .inr ⟨b, off, e, fun i hi => ?_⟩
    have h0 := cell_lt (h i hi)
    rw [hb.cell (p := ⟨b, off + i, none⟩) h0]; exact h i hi
end Go.Proofs.YtkemhkmabbladaaGreatDoor
