/-
  THE CONTRACT OF nums.Take: the number at the beginning, and what stands behind.
-/
import Derived.Test.YtpoagfldekppkaaDoorNPutD
import Derived.WalkSpells
namespace Go.Proofs.YtpoagfldekppkaaDoor
open Go.RowKit

/-- The number that bytes are, the highest first. -/
def beVal (l : List UInt8) : Nat := l.foldl (fun n c => n * 256 + c.toNat) 0
theorem beVal_snoc (l : List UInt8) (c : UInt8) : beVal (l ++ [c]) = beVal l * 256 + c.toNat := by simp [beVal]
theorem fold_lt : ∀ (l : List UInt8) (n : Nat), l.foldl (fun n c => n * 256 + c.toNat) n < (n + 1) * 256 ^ l.length
  | [], n => by simp
  | c :: l, n => by
    rw [List.foldl_cons, List.length_cons, Nat.pow_succ]
    have h := fold_lt l (n * 256 + c.toNat)
    have hc := c.toNat_lt
    have h2 : (n * 256 + c.toNat + 1) * 256 ^ l.length ≤ (n * 256 + 256) * 256 ^ l.length := Nat.mul_le_mul_right _ (by omega)
    have h3 : (n * 256 + 256) * 256 ^ l.length = (n + 1) * (256 ^ l.length * 256) := by
      rw [show n * 256 + 256 = (n + 1) * 256 from by omega, Nat.mul_assoc, Nat.mul_comm 256]
    omega
theorem beVal_lt (l : List UInt8) : beVal l < 256 ^ l.length := by
  have := fold_lt l 0
  simpa [beVal] using this

theorem wrapU64 (n : Nat) (h : n < 18446744073709551616) : IntKind.u64.wrap (n : Int) = n := by
  unfold IntKind.wrap
  simp [IntKind.bits, IntKind.signed]
  omega
theorem ofIntU64 (n : Nat) (h : n < 18446744073709551616) : (BitVec.ofInt 64 (n : Int)).toNat = n := by
  rw [BitVec.toNat_ofInt]; simp; omega
theorem or_byte (V : Nat) (c : UInt8) (h : V < 72057594037927936) : bits BinOp.or IntKind.u64 ((V : Int) * 256) (IntKind.u64.wrap (c.toNat : Int)) = ((V * 256 + c.toNat : Nat) : Int) := by
  have hc := c.toNat_lt
  rw [show (V : Int) * 256 = ((V * 256 : Nat) : Int) from by simp, wrapU64 _ (by omega)]
  show IntKind.u64.wrap (((BitVec.ofInt 64 ((V * 256 : Nat) : Int)) ||| (BitVec.ofInt 64 (c.toNat : Int))).toNat : Int) = _
  have e : ((BitVec.ofInt 64 ((V * 256 : Nat) : Int)) ||| (BitVec.ofInt 64 (c.toNat : Int))).toNat = V * 256 + c.toNat := by
    rw [BitVec.toNat_or, ofIntU64 _ (by omega), ofIntU64 _ (by omega)]
    have := Nat.two_pow_add_eq_or_of_lt (i := 8) (b := c.toNat) (by omega) V
    rw [show V * 256 = 2 ^ 8 * V from by omega]
    exact this.symm
  rw [e, wrapU64 _ (by omega)]
theorem IntKind.wrap_id' (V : Nat) (h : V < 9223372036854775808) : IntKind.i64.wrap (V : Int) = V := by
  unfold IntKind.wrap
  simp [IntKind.bits, IntKind.signed]
  omega

/-- What Take answers. -/
def takeOf (s : ByteArray) (size : Int) : Option (Nat × ByteArray) :=
  if 1 ≤ size ∧ size ≤ 8 ∧ size ≤ s.size ∧ beVal (s.data.toList.take size.toNat) ≤ 9223372036854775807 then some (beVal (s.data.toList.take size.toNat), s.extract size.toNat s.size) else none
def takeVal (s : ByteArray) (size : Int) : Value :=
  match takeOf s size with
  | some (n, r) => .tuple #[.int .i64 n, .string r, .bool true]
  | none => .tuple #[.int .i64 0, .string s, .bool false]

theorem takeVal_some {s : ByteArray} {size : Int} (h : 1 ≤ size ∧ size ≤ 8 ∧ size ≤ s.size ∧ beVal (s.data.toList.take size.toNat) ≤ 9223372036854775807) :
    takeVal s size = .tuple #[.int .i64 (beVal (s.data.toList.take size.toNat)), .string (s.extract size.toNat s.size), .bool true] := by
  unfold takeVal takeOf; rw [if_pos h]
theorem takeVal_none {s : ByteArray} {size : Int} (h : ¬ (1 ≤ size ∧ size ≤ 8 ∧ size ≤ s.size ∧ beVal (s.data.toList.take size.toNat) ≤ 9223372036854775807)) :
    takeVal s size = .tuple #[.int .i64 0, .string s, .bool false] := by
  unfold takeVal takeOf; rw [if_neg h]

set_option maxHeartbeats 1000000 in
theorem take_any (s : ByteArray) (size : Int) (w : World) (hsz : -9223372036854775808 ≤ size ∧ size ≤ 9223372036854775807) (hs : s.size ≤ 140737488355328) :
    Calls Tryd.prog 51 #[.string s, .int .i64 size] w fun e w' => e = .returned (takeVal s size) ∧ Below w.heap.size w w' := by
  by_cases h1 : 1 ≤ size
  · by_cases h8 : size ≤ 8
    · by_cases hl : size ≤ s.size
      · obtain ⟨k, rfl⟩ := Int.eq_ofNat_of_zero_le (a := size) (by omega)
        have hk1 : 1 ≤ k := by omega
        have hk8 : k ≤ 8 := by omega
        have hks : k ≤ s.size := by omega
        go_enter Tryd.func51, Tryd.ntmps51
        go_wp2
        go_loop [7, 8, 23] (fun n _ r => ∃ (j V : Nat), j ≤ k ∧ r = .int .i64 j ∧ n = .int .u64 V ∧ Hid (V = beVal (s.data.toList.take j))) (fun _ _ i => k - (intOf i).toNat)
        case atStart => exact ⟨0, 0, Nat.zero_le _, rfl, rfl, by simp [Hid, beVal]⟩
        case round =>
          obtain ⟨j, V, hj, rfl, rfl, hv⟩ := hrel
          by_cases hlt : j < k
          · have hjs : j < s.size := by omega
            have HS := Lib.hid (take_snoc s j hjs)
            have hV : V < 72057594037927936 := by
              have h1 := beVal_lt (s.data.toList.take j)
              rw [← hv.out] at h1
              have h2 : (s.data.toList.take j).length ≤ 7 := by rw [List.length_take]; omega
              have h3 : 256 ^ (s.data.toList.take j).length ≤ 256 ^ 7 := Nat.pow_le_pow_right (by omega) h2
              omega
            have HO := Lib.hid (or_byte V s[j] hV)
            go_wp2
            go_round
            case rel => exact ⟨j + 1, V * 256 + s[j].toNat, by omega, by go_num, by rw [HO.out], by rw [Hid, HS.out, beVal_snoc, hv.out]⟩
            case measure => simp [intOf]; omega
          · have hjk : j = k := by omega
            subst hjk
            have hV : V < 18446744073709551616 := by
              have h1 := beVal_lt (s.data.toList.take j)
              rw [← hv.out] at h1
              have h2 : (s.data.toList.take j).length ≤ 8 := by rw [List.length_take]; omega
              have h3 : 256 ^ (s.data.toList.take j).length ≤ 256 ^ 8 := Nat.pow_le_pow_right (by omega) h2
              omega
            by_cases hbig : V ≤ 9223372036854775807
            · have hcv : IntKind.i64.wrap (V : Int) = V := IntKind.wrap_id' V (by omega)
              go_wp2
              go_quiet (fail)
              go_wp2
              go_ret3
              have htk : takeVal s (j : Int) = .tuple #[.int .i64 V, .string (s.extract j s.size), .bool true] := by
                rw [takeVal_some (by rw [Int.toNat_natCast, ← hv.out]; exact ⟨h1, h8, hl, hbig⟩), Int.toNat_natCast, ← hv.out]
              exact ⟨by rw [htk]; rfl, below_drewN (Below.refl _ _) _⟩
            · go_wp2
              go_ret3
              have htk := takeVal_none (s := s) (size := (j : Int)) (by rw [Int.toNat_natCast, ← hv.out]; intro h; exact hbig h.2.2.2)
              exact ⟨by rw [htk]; rfl, Below.refl _ _⟩
      · have htk := Lib.hid (takeVal_none (s := s) (size := size) (fun h => hl h.2.2.1))
        go_enter Tryd.func51, Tryd.ntmps51
        go_wp2
        go_ret3
        exact ⟨by rw [htk.out]; rfl, Below.refl _ _⟩
    · have htk := Lib.hid (takeVal_none (s := s) (size := size) (fun h => h8 h.2.1))
      go_enter Tryd.func51, Tryd.ntmps51
      go_wp2
      go_ret3
      exact ⟨by rw [htk.out]; rfl, Below.refl _ _⟩
  · have htk := Lib.hid (takeVal_none (s := s) (size := size) (fun h => h1 h.1))
    go_enter Tryd.func51, Tryd.ntmps51
    go_wp2
    go_ret3
    exact ⟨by rw [htk.out]; rfl, Below.refl _ _⟩
theorem fold_from : ∀ (l : List UInt8) (n : Nat), l.foldl (fun n c => n * 256 + c.toNat) n = n * 256 ^ l.length + beVal l
  | [], n => by simp [beVal]
  | c :: l, n => by
    unfold beVal
    rw [List.foldl_cons, List.foldl_cons, List.length_cons, fold_from l (n * 256 + c.toNat), fold_from l (0 * 256 + c.toNat), Nat.pow_succ, Nat.add_mul, Nat.add_mul,
      Nat.mul_assoc, Nat.mul_comm 256, Nat.zero_mul]
    omega
theorem beVal_cons (c : UInt8) (l : List UInt8) : beVal (c :: l) = c.toNat * 256 ^ l.length + beVal l := by
  have := fold_from l c.toNat
  rw [← this]; simp [beVal]
theorem beVal_be (k n : Nat) : beVal (be k n) = n % 256 ^ k := by
  induction k with
  | zero => simp [be, beVal, Nat.mod_one]
  | succ k ih =>
    rw [be_succ, beVal_cons, be_len, ih, mod_split, UInt8.toNat_ofNat', Nat.mod_eq_of_lt (a := n / 256 ^ k % 256) (by omega)]

theorem cat_list (x : List UInt8) (m : ByteArray) : (ByteArray.mk x.toArray ++ m).data.toList = x ++ m.data.toList := by
  simp [ByteArray.data_append]
end Go.Proofs.YtpoagfldekppkaaDoor
