/-
  THE WALK OF quadrigalaw01.NumsBack: what is laid is taken as it was; it returns true, and writes nothing that was there.
-/
import Derived.Test.YtcdnohgnmfaclaaNumsTake
import Derived.Test.YtcdnohgnmfaclaaNumsRisesLaw
namespace Go.Proofs.Ytcdnohgnmfaclaa
open Go.RowKit

theorem fold_from : ∀ (l : List UInt8) (n : Nat), l.foldl (fun n c => n * 256 + c.toNat) n = n * 256 ^ l.length + beVal l
  | [], n => by simp [beVal]
  | c :: l, n => by
    unfold beVal
    rw [List.foldl_cons, List.foldl_cons, List.length_cons, fold_from l (n * 256 + c.toNat), fold_from l (0 * 256 + c.toNat), Nat.pow_succ, Nat.add_mul, Nat.add_mul,
      Nat.mul_assoc, Nat.mul_comm 256, Nat.zero_mul]
    omega
theorem beVal_cons (c : UInt8) (l : List UInt8) : beVal (c :: l) = c.toNat * 256 ^ l.length + beVal l := by
  have := fold_from l c.toNat
  rw [← this]; simp [beVal]
theorem beVal_be (k n : Nat) : beVal (be k n) = n % 256 ^ k := by
  induction k with
  | zero => simp [be, beVal, Nat.mod_one]
  | succ k ih =>
    rw [be_succ, beVal_cons, be_len, ih, mod_split, UInt8.toNat_ofNat', Nat.mod_eq_of_lt (a := n / 256 ^ k % 256) (by omega)]

theorem cat_list (x : List UInt8) (m : ByteArray) : (ByteArray.mk x.toArray ++ m).data.toList = x ++ m.data.toList := by
  simp [ByteArray.data_append]
theorem back_take (k : Nat) (n : Int) (m : ByteArray) (h1 : 1 ≤ k) (h8 : k ≤ 8) (hf : fitsN k n = true) (hn : n ≤ 9223372036854775807) :
    takeVal (ByteArray.mk (be k n.toNat).toArray ++ m) (k : Int) = .tuple #[.int .i64 n, .string m, .bool true] := by
  obtain ⟨n0, n1⟩ := fitsN_parts hf
  have hsz : (ByteArray.mk (be k n.toNat).toArray ++ m).size = k + m.size := by
    rw [ByteArray.size_append]; show (be k n.toNat).toArray.size + _ = _; simp [be_len]
  have ht : (ByteArray.mk (be k n.toNat).toArray ++ m).data.toList.take k = be k n.toNat := by
    rw [cat_list, List.take_append_of_le_length (by rw [be_len]; omega), List.take_of_length_le (by rw [be_len]; omega)]
  have hv : beVal ((ByteArray.mk (be k n.toNat).toArray ++ m).data.toList.take k) = n.toNat := by
    rw [ht, beVal_be, Nat.mod_eq_of_lt n1]
  have hx : (ByteArray.mk (be k n.toNat).toArray ++ m).extract k (ByteArray.mk (be k n.toNat).toArray ++ m).size = m := by
    apply ByteArray.ext
    rw [ByteArray.data_extract, ByteArray.data_append, hsz]
    apply Array.toList_inj.1
    simp [be_len]
    rw [List.drop_eq_nil_of_le (by rw [be_len]; omega), List.take_nil, List.nil_append, List.take_of_length_le (by simp)]
  rw [takeVal_some (by rw [Int.toNat_natCast, hv, hsz]; omega), Int.toNat_natCast, hv, hx, Int.toNat_of_nonneg n0]

theorem takeVal_any (s : ByteArray) (size : Int) : ∃ a b c, takeVal s size = .tuple #[.int .i64 a, .string b, .bool c] := by
  unfold takeVal
  split
  · exact ⟨_, _, _, rfl⟩
  · exact ⟨_, _, _, rfl⟩

set_option maxHeartbeats 1000000 in
theorem numsBack_walk (z n : Int) (m : ByteArray) (w : World) (hz : (Lit.int .u8 z).wf = true) (hn : (Lit.int .i64 n).wf = true) (hm : m.size ≤ maxLen) :
    Calls Try.prog 5 #[.int .u8 z, .int .i64 n, .string m] w fun e w' => e = .returned (.bool true) ∧ Below w.heap.size w w' := by
  unfold maxLen at hm
  have hz0 := bounds_u8 hz
  have hn0 := bounds_i64 hn
  have HWk := Lib.hid fun W => awake_any W
  by_cases h100 : m.size ≤ 100
  · obtain ⟨k, hk⟩ : ∃ k : Nat, (k : Int) = 1 + z % 8 := ⟨(1 + z % 8).toNat, by omega⟩
    have hk1 : 1 ≤ k := by omega
    have hk8 : k ≤ 8 := by omega
    have HA := Lib.hid (put1_any w k n (by omega) hn)
    rw [putL_one k n hk1 hk8] at HA
    have HT := Lib.hid fun s (hs : s.size ≤ 1000) W => take_any s (k : Int) W (by omega) hs
    clear hz hn
    by_cases hf : fitsN k n = true
    · have hbt := back_take k n m hk1 hk8 hf hn0.2
      rw [if_pos hf] at HA
      have ex := (be_facts k n n hk1 hf hf).1
      have lx : (be k n.toNat).length ≤ 8 := by rw [be_len]; exact hk8
      obtain ⟨x, hx⟩ : ∃ x, x = be k n.toNat := ⟨_, rfl⟩
      rw [← hx] at HA hbt ex lx
      have hcs : (ByteArray.mk x.toArray ++ m).size ≤ 1000 := by
        rw [ByteArray.size_append]; show x.toArray.size + _ ≤ _; simp; omega
      have HT1 := Lib.hid (HT.out (ByteArray.mk x.toArray ++ m) hcs)
      rw [hbt] at HT1
      rw [hk] at HA HT1
      clear hf hx hbt hcs HT hk
      go_enter Try.func5, Try.ntmps5
      go_wp2_with fail
      refine (HA.out _ (Below.refl _ _)).mono ?_
      rintro e w1 ⟨rfl, hb1⟩
      go_wp2_with fail
      refine (HT1.out _).mono ?_
      rintro e w2 ⟨rfl, hb2⟩
      have hb3 := hb1.trans (hb2.mono hb1.size)
      go_wp2_with fail
      refine (HWk.out _).mono ?_
      rintro e w4 ⟨rfl, hb4⟩
      have hb5 := hb3.trans (hb4.mono hb3.size)
      go_wp2
      go_ret
      exact ⟨rfl, hb5⟩
    · rw [if_neg hf] at HA
      have hcs : (ByteArray.mk ([] : List UInt8).toArray ++ m).size ≤ 1000 := by
        rw [ByteArray.size_append]; show 0 + _ ≤ _; omega
      obtain ⟨a, b, c, hbt⟩ := takeVal_any (ByteArray.mk ([] : List UInt8).toArray ++ m) (k : Int)
      have HT1 := Lib.hid (HT.out (ByteArray.mk ([] : List UInt8).toArray ++ m) hcs)
      rw [hbt] at HT1
      rw [hk] at HA HT1
      clear hbt hcs HT
      go_enter Try.func5, Try.ntmps5
      go_wp2_with fail
      refine (HA.out _ (Below.refl _ _)).mono ?_
      rintro e w1 ⟨rfl, hb1⟩
      go_wp2_with fail
      refine (HT1.out _).mono ?_
      rintro e w2 ⟨rfl, hb2⟩
      have hb3 := hb1.trans (hb2.mono hb1.size)
      clear HA HT1
      by_cases hneg : n < 0
      · go_wp2_with fail
        refine (HWk.out _).mono ?_
        rintro e w4 ⟨rfl, hb4⟩
        have hb5 := hb3.trans (hb4.mono hb3.size)
        go_wp2
        go_ret
        exact ⟨rfl, hb5⟩
      · have hge : 0 ≤ n := by omega
        have hk7 : 1 + z % 8 < 8 := by
          have hns : ¬ n.toNat < 256 ^ k := fun h => hf (by unfold fitsN; simp [hge, h])
          have : k ≠ 8 := by rintro rfl; omega
          omega
        have hsh : ¬ n / 2 ^ (8 * (1 + z % 8)).toNat = 0 := by
          have h1 := fits_shift k n hge
          have hns : ¬ n.toNat < 256 ^ k := fun h => hf (by unfold fitsN; simp [hge, h])
          rw [show (8 * (1 + z % 8)).toNat = 8 * k from by omega]
          simpa [hns] using h1
        clear hf hk
        go_wp2_with fail
        refine (HWk.out _).mono ?_
        rintro e w4 ⟨rfl, hb4⟩
        have hb5 := hb3.trans (hb4.mono hb3.size)
        go_wp2
        go_ret
        exact ⟨ret_bool (a := decide (n < 0) || n / 2 ^ (8 * (1 + z % 8)).toNat != 0) (by simp [hsh]), hb5⟩
  · have hbig : (100 : Int) < m.size := by omega
    go_enter Try.func5, Try.ntmps5
    go_wp2_with fail
    refine (HWk.out _).mono ?_
    rintro e w4 ⟨rfl, hb4⟩
    go_wp2
    go_ret
    exact ⟨rfl, hb4⟩
end Go.Proofs.Ytcdnohgnmfaclaa
