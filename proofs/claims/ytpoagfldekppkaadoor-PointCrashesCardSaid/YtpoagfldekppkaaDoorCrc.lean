/-
  CRC-32 AS A REGISTER OF BITS: a step is linear and can be undone; rows of bits that part only inside a window of at most 32 are fed to unlike registers. No program in sight.
-/
namespace Go.Proofs.YtpoagfldekppkaaDoor.Crc
/-- one bit's step of the register -/
def T (r : BitVec 32) : BitVec 32 := (r >>> 1) ^^^ (if r.getLsbD 0 then 0xedb88320#32 else 0#32)
def Tn : Nat → BitVec 32 → BitVec 32
  | 0, r => r
  | n + 1, r => Tn n (T r)
def bit1 (b : Bool) : BitVec 32 := if b then 1#32 else 0#32
def feedBit (r : BitVec 32) (b : Bool) : BitVec 32 := T (r ^^^ bit1 b)
def feed (r : BitVec 32) (l : List Bool) : BitVec 32 := l.foldl feedBit r
/-- bits as a word -/
def W : List Bool → BitVec 32
  | [] => 0#32
  | b :: l => bit1 b ^^^ (W l <<< 1)

theorem T_xor (a b : BitVec 32) : T (a ^^^ b) = T a ^^^ T b := by
  unfold T
  apply BitVec.eq_of_getLsbD_eq
  intro i hi
  simp only [BitVec.getLsbD_xor, BitVec.getLsbD_ushiftRight]
  cases ha : a.getLsbD 0 <;> cases hb : b.getLsbD 0 <;> simp <;> (try (cases a.getLsbD (1 + i) <;> cases b.getLsbD (1 + i) <;> simp))

theorem T_zero : T 0#32 = 0#32 := by decide

theorem T_ker (x : BitVec 32) (h : T x = 0#32) : x = 0#32 := by
  have h31 : (T x).getLsbD 31 = false := by rw [h]; simp
  have h0 : x.getLsbD 0 = false := by
    unfold T at h31
    simp only [BitVec.getLsbD_xor, BitVec.getLsbD_ushiftRight] at h31
    cases hx : x.getLsbD 0
    · rfl
    · rw [hx] at h31
      have : x.getLsbD (1 + 31) = false := BitVec.getLsbD_of_ge x 32 (by omega)
      rw [this] at h31
      revert h31; decide
  apply BitVec.eq_of_getLsbD_eq
  intro i hi
  simp only [BitVec.getLsbD_zero]
  cases i with
  | zero => exact h0
  | succ j =>
    have hj : (T x).getLsbD j = false := by rw [h]; simp
    unfold T at hj
    rw [h0] at hj
    simp only [BitVec.getLsbD_xor, BitVec.getLsbD_ushiftRight] at hj
    simpa [Nat.add_comm] using hj

theorem xor_eq_zero {a b : BitVec 32} (h : a ^^^ b = 0#32) : a = b := by
  have : a ^^^ (a ^^^ b) = a := by rw [h]; simp
  rw [← BitVec.xor_assoc, BitVec.xor_self, BitVec.zero_xor] at this
  exact this.symm

theorem T_inj {a b : BitVec 32} (h : T a = T b) : a = b := by
  apply xor_eq_zero
  apply T_ker
  rw [T_xor, h, BitVec.xor_self]

theorem Tn_inj : ∀ (n : Nat) {a b : BitVec 32}, Tn n a = Tn n b → a = b
  | 0, _, _, h => h
  | n + 1, _, _, h => T_inj (Tn_inj n h)

theorem feedBit_inj {a b : BitVec 32} {c : Bool} (h : feedBit a c = feedBit b c) : a = b := by
  have := T_inj h
  have h2 : (a ^^^ bit1 c) ^^^ bit1 c = (b ^^^ bit1 c) ^^^ bit1 c := by rw [this]
  simpa [BitVec.xor_assoc] using h2

theorem feed_inj : ∀ (l : List Bool) {a b : BitVec 32}, feed a l = feed b l → a = b
  | [], _, _, h => h
  | _ :: l, _, _, h => feedBit_inj (feed_inj l h)

theorem feed_append (r : BitVec 32) (a b : List Bool) : feed r (a ++ b) = feed (feed r a) b := by
  unfold feed; rw [List.foldl_append]

theorem T_shl (x : BitVec 32) (h : x.getLsbD 31 = false) : T (x <<< 1) = x := by
  unfold T
  have h0 : (x <<< 1).getLsbD 0 = false := by simp
  rw [h0]
  apply BitVec.eq_of_getLsbD_eq
  intro i hi
  simp only [BitVec.getLsbD_xor, BitVec.getLsbD_ushiftRight, BitVec.getLsbD_shiftLeft]
  by_cases hj : i = 31
  · subst hj
    rw [h]; rfl
  · have : 1 + i < 32 := by omega
    simp [this]

theorem W_high : ∀ (l : List Bool) (i : Nat), l.length ≤ i → (W l).getLsbD i = false
  | [], i, _ => by simp [W]
  | b :: l, i, h => by
    simp only [List.length_cons] at h
    simp only [W, BitVec.getLsbD_xor, BitVec.getLsbD_shiftLeft]
    have h1 : (bit1 b).getLsbD i = false := by
      unfold bit1
      have hi : i ≠ 0 := by omega
      cases b <;> simp [BitVec.getLsbD_one, hi]
    have h2 := W_high l (i - 1) (by omega)
    simp [h1, h2]

theorem W_get : ∀ (l : List Bool) (i : Nat), i < l.length → i < 32 → (W l).getLsbD i = l.getD i false
  | [], i, h, _ => by simp at h
  | b :: l, 0, h, _ => by
    simp only [W, BitVec.getLsbD_xor, BitVec.getLsbD_shiftLeft]
    cases b <;> simp [bit1]
  | b :: l, i + 1, h, hi => by
    simp only [List.length_cons] at h
    simp only [W, BitVec.getLsbD_xor, BitVec.getLsbD_shiftLeft]
    have h1 : (bit1 b).getLsbD (i + 1) = false := by
      unfold bit1
      cases b <;> simp [BitVec.getLsbD_one]
    have h2 := W_get l i (by omega) (by omega)
    rw [h1]
    simp [h2, hi]

theorem W_inj (a b : List Bool) (hl : a.length = b.length) (h32 : a.length ≤ 32) (h : W a = W b) : a = b := by
  apply List.ext_getElem hl
  intro i h1 h2
  have ha := W_get a i h1 (by omega)
  have hb := W_get b i h2 (by omega)
  rw [h, hb] at ha
  simpa [h1, h2] using ha.symm

/-- FEEDING AT MOST 32 BITS is one word added, and as many steps. -/
theorem feed_word : ∀ (l : List Bool) (r : BitVec 32), l.length ≤ 32 → feed r l = Tn l.length (r ^^^ W l)
  | [], r, _ => by simp [feed, Tn, W]
  | b :: l, r, h => by
    simp only [List.length_cons] at h ⊢
    show feed (feedBit r b) l = Tn l.length (T (r ^^^ W (b :: l)))
    rw [feed_word l _ (by omega)]
    congr 1
    have hh := W_high l 31 (by omega)
    rw [W, ← BitVec.xor_assoc, T_xor, T_shl _ hh]
    rfl

/-- A BURST: two rows of bits that part only inside a window of at most 32 are fed to unlike registers, unless they are one. -/
theorem feed_window (r : BitVec 32) (p a b q : List Bool) (hl : a.length = b.length) (h32 : a.length ≤ 32)
    (h : feed r (p ++ a ++ q) = feed r (p ++ b ++ q)) : a = b := by
  rw [feed_append, feed_append, feed_append, feed_append] at h
  have h1 := feed_inj q h
  rw [feed_word a _ h32, feed_word b _ (by omega), hl] at h1
  have h2 := Tn_inj _ h1
  apply W_inj a b hl h32
  have h3 : feed r p ^^^ (feed r p ^^^ W a) = feed r p ^^^ (feed r p ^^^ W b) := by rw [h2]
  simpa [← BitVec.xor_assoc] using h3

/-! ### bytes -/
def bitsOf (c : UInt8) : List Bool := (List.range 8).map fun i => c.toNat.testBit i
def bitsAll (l : List UInt8) : List Bool := l.flatMap bitsOf
def feedByte (r : BitVec 32) (c : UInt8) : BitVec 32 := feed r (bitsOf c)
def feedBytes (r : BitVec 32) (l : List UInt8) : BitVec 32 := l.foldl feedByte r
theorem feedBytes_bits : ∀ (l : List UInt8) (r : BitVec 32), feedBytes r l = feed r (bitsAll l)
  | [], r => rfl
  | c :: l, r => by
    show feedBytes (feedByte r c) l = _
    rw [feedBytes_bits l]
    show _ = feed r (bitsOf c ++ bitsAll l)
    rw [feed_append]; rfl
def crc (l : List UInt8) : BitVec 32 := ~~~ feedBytes (BitVec.allOnes 32) l
end Go.Proofs.YtpoagfldekppkaaDoor.Crc
