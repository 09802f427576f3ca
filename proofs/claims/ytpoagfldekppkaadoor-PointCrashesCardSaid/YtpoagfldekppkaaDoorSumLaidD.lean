/-
  WHAT IS NEEDED OF THE DEVICE'S TEXTS, AS FAR AS THIS SEAT HAS ITS FUNCTIONS (put together by wip/only-there.py).
-/
import Derived.Test.YtpoagfldekppkaaDoorSumOf
import Derived.LoopN
namespace Go.Proofs.YtpoagfldekppkaaDoor
open Go.RowKit Crc

theorem bit_val (c : UInt8) (b : Nat) : ((c.toNat : Int) / 2 ^ b).tmod 2 % 4294967296 = if c.toNat.testBit b then 1 else 0 := by
  have e : (c.toNat : Int) / 2 ^ b = ((c.toNat / 2 ^ b : Nat) : Int) := by simp
  rw [e, Nat.testBit_eq_decide_div_mod_eq]
  generalize c.toNat / 2 ^ b = d
  rw [Int.tmod_eq_emod_of_nonneg (Int.natCast_nonneg d)]
  by_cases h : d % 2 = 1
  · simp only [h, decide_true, if_true]
    omega
  · simp only [h, decide_false]
    have : d % 2 = 0 := by omega
    simp
    omega

theorem feedBit_val (Q : BitVec 32) (d : Bool) : (feedBit Q d).toNat = if ((Q.toNat % 2 == 1) != d) then (Q.toNat / 2) ^^^ 3988292384 else Q.toNat / 2 := by
  have h0 : (Q ^^^ bit1 d).getLsbD 0 = ((Q.toNat % 2 == 1) != d) := by
    rw [BitVec.getLsbD_xor]
    have : Q.getLsbD 0 = (Q.toNat % 2 == 1) := by rw [BitVec.getLsbD, Nat.testBit_zero]; simp [Bool.beq_eq_decide_eq]
    rw [this]
    cases d <;> simp [bit1]
  have h1 : ((Q ^^^ bit1 d) >>> 1).toNat = Q.toNat / 2 := by
    rw [BitVec.toNat_ushiftRight, BitVec.toNat_xor, Nat.shiftRight_eq_div_pow]
    apply Nat.eq_of_testBit_eq
    intro i
    rw [Nat.testBit_div_two_pow, Nat.testBit_xor]
    have : (bit1 d).toNat.testBit (i + 1) = false := by
      cases d
      · simp [bit1]
      · show Nat.testBit 1 (i + 1) = false
        rw [Nat.testBit_succ]; simp
    rw [this, show (2 : Nat) = 2 ^ 1 from rfl, Nat.testBit_div_two_pow]
    simp
  unfold feedBit T
  rw [BitVec.toNat_xor, h1, h0]
  cases ((Q.toNat % 2 == 1) != d) <;> simp

theorem bit_hit (Q : BitVec 32) (c : UInt8) (b : Nat) (h : ((Q.toNat : Int) % 2 != ((c.toNat : Int) / 2 ^ b).tmod 2 % 4294967296) = true) :
    bits .xor .u32 ((Q.toNat : Int) / 2) 3988292384 = ((feedBit Q (c.toNat.testBit b)).toNat : Int) := by
  rw [bit_val] at h
  have hq : Q.toNat < 4294967296 := Q.isLt
  rw [feedBit_val, if_pos]
  · rw [show (Q.toNat : Int) / 2 = ((Q.toNat / 2 : Nat) : Int) from by omega, show (3988292384 : Int) = ((3988292384 : Nat) : Int) from rfl, u32_xor_nat _ _ (by omega) (by omega)]
  · rw [bne_iff_ne] at h ⊢
    cases hb : c.toNat.testBit b <;> simp [hb] at h ⊢ <;> omega

theorem bit_miss (Q : BitVec 32) (c : UInt8) (b : Nat) (h : ((Q.toNat : Int) % 2 != ((c.toNat : Int) / 2 ^ b).tmod 2 % 4294967296) = false) :
    (Q.toNat : Int) / 2 = ((feedBit Q (c.toNat.testBit b)).toNat : Int) := by
  rw [bit_val] at h
  rw [feedBit_val, if_neg]
  · omega
  · rw [bne_eq_false_iff_eq] at h
    cases hb : c.toNat.testBit b <;> simp [hb] at h ⊢ <;> omega

theorem feed_bits (R : BitVec 32) (c : UInt8) (b : Nat) (h : b < 8) : feed R ((bitsOf c).take (b + 1)) = feedBit (feed R ((bitsOf c).take b)) (c.toNat.testBit b) := by
  have hl : (bitsOf c).length = 8 := by simp [bitsOf]
  rw [List.take_succ_eq_append_getElem (by omega), feed_append]
  show feedBit _ _ = _
  congr 1
  simp [bitsOf]

theorem feed_all (R : BitVec 32) (c : UInt8) (b : Nat) (h : 8 ≤ b) : feed R ((bitsOf c).take b) = feedByte R c := by
  have hl : (bitsOf c).length = 8 := by simp [bitsOf]
  rw [List.take_of_length_le (by omega)]; rfl

theorem not_val (r : BitVec 32) : (4294967295 : Int) - (r.toNat : Int) = ((~~~ r).toNat : Int) := by
  have := r.isLt
  rw [BitVec.toNat_not]; omega

/-- string(b) of four bytes in the block that was laid last. -/
theorem four_bytes (T : TypeId) (x0 x1 x2 x3 : Int) (W : World) :
    (convert 79 9 (.slice (some ⟨W.heap.size, 0, none⟩) 4 4)).run Tryd.prog (W.alloc (.cells #[.int .u8 x0, .int .u8 x1, .int .u8 x2, .int .u8 x3] T)) =
      .ok (.string (strOfNums [x0, x1, x2, x3])) (W.alloc (.cells #[.int .u8 x0, .int .u8 x1, .int .u8 x2, .int .u8 x3] T)) := by
  refine run_convert_bytes_arg _ 79 5 Tryd.underlying79 Tryd.underlying5 _ _ _ _ [x0, x1, x2, x3] rfl ?_ 9 Tryd.underlying9
  intro i hi
  match i, hi with
  | 0, _ => simp [World.cell?_alloc_at]
  | 1, _ => simp [World.cell?_alloc_at]
  | 2, _ => simp [World.cell?_alloc_at]
  | 3, _ => simp [World.cell?_alloc_at]

/-- The sum of bytes, laid: the lowest byte first. -/
def laidStr (l : List UInt8) : ByteArray := strOfNums [((crc l).toNat : Int) % 256, ((crc l).toNat : Int) / 256 % 256, ((crc l).toNat : Int) / 65536 % 256, ((crc l).toNat : Int) / 16777216]

theorem ret_str {a b : ByteArray} (h : a = b) : Ending.returned (.string a) = .returned (.string b) := by rw [h]

set_option maxHeartbeats 400000 in
theorem laid_any (a : Option Addr) (ss : List ByteArray) (cap : Nat) (w : World) (hs : Short ss) (hn : ss.length ≤ maxLen) (ha : StrsAt w a ss) (ht : Tab w) :
    Calls Tryd.prog 53 #[.slice a ss.length cap] w fun e w' => e = .returned (.string (laidStr (joined ss))) ∧ Below w.heap.size w w' := by
  have kc := fun x0 x1 x2 x3 W => four_bytes 111 x0 x1 x2 x3 W
  go_enter Tryd.func53, Tryd.ntmps53
  go_wp2_with (go_at_call 66; refine (of_any a ss cap _ hs hn ha ht).mono ?_; rintro e w' ⟨rfl, rfl⟩)
  refine wp_loop_rounds 5 ?_
  rw [rounds_succ]; go_wp2
  rw [rounds_succ]; go_wp2
  rw [rounds_succ]; go_wp2
  rw [rounds_succ]; go_wp2
  rw [rounds_succ]; go_wp2
  go_ret
  exact ⟨ret_str rfl, (Below.refl _ _).alloc (Nat.le_refl _) _⟩

theorem cell_lt {w : World} {b off : Nat} {v : Value} (h : w.cell? ⟨b, off, none⟩ = some v) : b < w.heap.size := by
  rcases Nat.lt_or_ge b w.heap.size with h1 | h1
  · exact h1
  · simp [World.cell?, Array.getElem?_eq_none h1] at h
theorem Tab.below {w w' : World} (h : Tab w) (hb : Below w.heap.size w w') : Tab w' := fun k hk => by
  have h0 := cell_lt (h k hk)
  rw [hb.cell (p := ⟨2, k, none⟩) h0]; exact h k hk
theorem StrsAt.below {w w' : World} {a : Option Addr} {ss : List ByteArray} (h : StrsAt w a ss) (hb : Below w.heap.size w w') : StrsAt w' a ss := by
  rcases h with h | ⟨b, off, e, h⟩
  · exact .inl h
  · refine .inr ⟨b, off, e, fun i hi => ?_⟩
    have h0 := cell_lt (h i hi)
    rw [hb.cell (p := ⟨b, off + i, none⟩) h0]; exact h i hi
end Go.Proofs.YtpoagfldekppkaaDoor
