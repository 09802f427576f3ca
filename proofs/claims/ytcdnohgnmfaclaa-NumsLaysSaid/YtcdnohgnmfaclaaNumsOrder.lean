/-
  NUMBERS LAID STAND IN THEIR ORDER; what is laid is taken as it was. No program in sight.
-/
import Derived.Test.YtcdnohgnmfaclaaNumsWake
namespace Go.Proofs.Ytcdnohgnmfaclaa
open Go.RowKit

theorem be_succ (k n : Nat) : be (k + 1) n = UInt8.ofNat (n / 256 ^ k % 256) :: be k n := by
  unfold be
  rw [List.range_succ_eq_map, List.map_cons, List.map_map]
  congr 1
  apply List.map_congr_left
  intro i hi
  have hik : i < k := List.mem_range.1 hi
  simp only [Function.comp]
  rw [show k + 1 - 1 - (i + 1) = k - 1 - i from by omega]
theorem mod_split (k n : Nat) : n % 256 ^ (k + 1) = n / 256 ^ k % 256 * 256 ^ k + n % 256 ^ k := by
  rw [Nat.pow_succ, Nat.mod_mul, Nat.mul_comm (256 ^ k), Nat.add_comm]

theorem be_less : ∀ (k m n : Nat), Op.bytesLess (be k m) (be k n) = decide (m % 256 ^ k < n % 256 ^ k) ∧ (be k m = be k n ↔ m % 256 ^ k = n % 256 ^ k)
  | 0, m, n => by simp [be, Op.bytesLess, Nat.mod_one]
  | k + 1, m, n => by
    obtain ⟨h1, h2⟩ := be_less k m n
    rw [be_succ, be_succ, mod_split, mod_split]
    have hp : 0 < 256 ^ k := Nat.pow_pos (by omega)
    have r1 := Nat.mod_lt m hp
    have r2 := Nat.mod_lt n hp
    have d1 : m / 256 ^ k % 256 < 256 := Nat.mod_lt _ (by omega)
    have d2 : n / 256 ^ k % 256 < 256 := Nat.mod_lt _ (by omega)
    obtain ⟨x, hx⟩ : ∃ x, x = m / 256 ^ k % 256 := ⟨_, rfl⟩
    obtain ⟨y, hy⟩ : ∃ y, y = n / 256 ^ k % 256 := ⟨_, rfl⟩
    obtain ⟨P, hP⟩ : ∃ P, P = 256 ^ k := ⟨_, rfl⟩
    rw [← hx] at d1 ⊢
    rw [← hy] at d2 ⊢
    rw [← hP] at h1 h2 r1 r2 ⊢
    have hxv : (UInt8.ofNat x).toNat = x := by rw [UInt8.toNat_ofNat', Nat.mod_eq_of_lt (by omega)]
    have hyv : (UInt8.ofNat y).toNat = y := by rw [UInt8.toNat_ofNat', Nat.mod_eq_of_lt (by omega)]
    have hinj : UInt8.ofNat x = UInt8.ofNat y ↔ x = y := ⟨fun e => by rw [← hxv, ← hyv, e], fun e => by rw [e]⟩
    constructor
    · rcases Nat.lt_trichotomy x y with hlt | heq | hgt
      · have : x * P + m % P < y * P + n % P := by
          have : (x + 1) * P ≤ y * P := Nat.mul_le_mul_right P hlt
          rw [Nat.succ_mul] at this; omega
        have hl : UInt8.ofNat x < UInt8.ofNat y := by rw [UInt8.lt_iff_toNat_lt, hxv, hyv]; exact hlt
        rw [Op.bytesLess, decide_eq_true hl, decide_eq_true this, Bool.true_or]
      · subst heq
        have hl : ¬ UInt8.ofNat x < UInt8.ofNat x := by rw [UInt8.lt_iff_toNat_lt]; omega
        rw [Op.bytesLess, decide_eq_false hl, Bool.false_or, beq_self_eq_true, Bool.true_and, h1]
        congr 1
        exact propext ⟨fun h => by omega, fun h => by omega⟩
      · have : ¬ x * P + m % P < y * P + n % P := by
          have : (y + 1) * P ≤ x * P := Nat.mul_le_mul_right P hgt
          rw [Nat.succ_mul] at this; omega
        have hl : ¬ UInt8.ofNat x < UInt8.ofNat y := by rw [UInt8.lt_iff_toNat_lt, hxv, hyv]; omega
        have hne : ¬ UInt8.ofNat x = UInt8.ofNat y := by rw [hinj]; omega
        rw [Op.bytesLess, decide_eq_false hl, decide_eq_false this, beq_eq_false_iff_ne.2 hne]
        rfl
    · rw [List.cons.injEq, hinj, h2]
      constructor
      · rintro ⟨rfl, h⟩; rw [h]
      · intro h
        have e1 : x = y := by
          rcases Nat.lt_trichotomy x y with hlt | heq | hgt
          · have : (x + 1) * P ≤ y * P := Nat.mul_le_mul_right P hlt
            rw [Nat.succ_mul] at this; omega
          · exact heq
          · have : (y + 1) * P ≤ x * P := Nat.mul_le_mul_right P hgt
            rw [Nat.succ_mul] at this; omega
        subst e1
        exact ⟨rfl, by omega⟩
end Go.Proofs.Ytcdnohgnmfaclaa
