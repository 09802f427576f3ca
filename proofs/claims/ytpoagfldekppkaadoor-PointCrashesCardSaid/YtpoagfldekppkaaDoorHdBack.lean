/-
  What Read answers of what Laid lays.
-/
import Derived.Test.YtpoagfldekppkaaDoorHdLoad
namespace Go.Proofs.YtpoagfldekppkaaDoor
open Go.RowKit
def hstr (l : List UInt8) : ByteArray := ⟨l.toArray⟩
theorem hstr_data (l : List UInt8) : (hstr l).data.toList = l := by unfold hstr; simp
theorem hstr_size (l : List UInt8) : (hstr l).size = l.length := by unfold hstr; simp [ByteArray.size]
theorem hs_ext {a b : ByteArray} (h : a.data.toList = b.data.toList) : a = b := by
  obtain ⟨⟨x⟩⟩ := a
  obtain ⟨⟨y⟩⟩ := b
  simpa using h
theorem hs_extract (l : List UInt8) (i j : Nat) : (hstr l).extract i j = hstr ((l.take j).drop i) := by
  apply hs_ext
  rw [ByteArray.data_extract, Array.toList_extract, List.extract_eq_take_drop, List.drop_take, hstr_data, hstr_data]
theorem takeOf_eight {n : Nat} (hx : n ≤ 9223372036854775807) (r : List UInt8) : takeOf (hstr (be 8 n ++ r)) 8 = some (n, hstr r) := by
  have hn : n < 256 ^ 8 := by omega
  have hl := be_len 8 n
  have hv : beVal ((hstr (be 8 n ++ r)).data.toList.take (8 : Int).toNat) = n := by
    rw [hstr_data]
    have : (be 8 n ++ r).take (8 : Int).toNat = be 8 n := by
      generalize be 8 n = q at *
      rw [show (8 : Int).toNat = q.length by rw [hl]; rfl, List.take_left]
    rw [this, beVal_be, Nat.mod_eq_of_lt hn]
  have hs : (hstr (be 8 n ++ r)).size = 8 + r.length := by rw [hstr_size, List.length_append, be_len]
  unfold takeOf
  rw [if_pos ⟨by omega, by omega, by rw [hs]; omega, by rw [hv]; exact hx⟩, hv, hs_extract, hs]
  congr 3
  rw [List.take_of_length_le (by rw [List.length_append, be_len]; exact Nat.le_refl _)]
  generalize be 8 n = q at *
  rw [show (8 : Int).toNat = q.length by rw [hl]; rfl, List.drop_left]
theorem nsOf_five {a b c d e : Nat} (ha : a ≤ 9223372036854775807) (hb : b ≤ 9223372036854775807) (hc : c ≤ 9223372036854775807) (hd : d ≤ 9223372036854775807) (he : e ≤ 9223372036854775807) (r : List UInt8) :
    nsOf 5 (hstr (be 8 a ++ (be 8 b ++ (be 8 c ++ (be 8 d ++ (be 8 e ++ r)))))) = some [a, b, c, d, e] := by
  simp only [nsOf, takeOf_eight ha, takeOf_eight hb, takeOf_eight hc, takeOf_eight hd, takeOf_eight he, Option.map_some]
theorem readHd_hdStr {s e c st m : Int} (h : hdOk s e c st m = true) : readHd (hdStr s e c st m) = some (s, e, c, st, m) := by
  obtain ⟨⟨a1, a2⟩, ⟨b1, b2⟩, ⟨c1, c2⟩, ⟨d1, d2⟩, ⟨e1, e2⟩⟩ := hdOk_parts h
  have hl : hdStr s e c st m = hstr (be 8 s.toNat ++ (be 8 e.toNat ++ (be 8 c.toNat ++ (be 8 st.toNat ++ (be 8 m.toNat ++ ((laidStr (hdNums s e c st m)).data.toList ++ List.replicate 20 0)))))) := by
    apply hs_ext
    unfold hdStr sealStr
    rw [hstr_data, ByteArray.data_append, Array.toList_append, ByteArray.data_append, Array.toList_append]
    show ((hdNums s e c st m) ++ _) ++ _ = _
    rw [hdNums_flat h]
    simp only [List.append_assoc]
  have hn : nsOf 5 (hdStr s e c st m) = some [s.toNat, e.toNat, c.toNat, st.toNat, m.toNat] := by
    rw [hl]
    exact nsOf_five (by omega) (by omega) (by omega) (by omega) (by omega) _
  unfold readHd
  rw [hn]
  simp only [Int.toNat_of_nonneg a1, Int.toNat_of_nonneg b1, Int.toNat_of_nonneg c1, Int.toNat_of_nonneg d1, Int.toNat_of_nonneg e1]
  rw [if_pos ⟨h, trivial⟩]
def zero64 : ByteArray := ⟨(List.replicate 64 (0 : UInt8)).toArray⟩
theorem allZ_zero : allZ zero64 = true := by decide +kernel
theorem readHd_zero : readHd zero64 = none := by decide +kernel
end Go.Proofs.YtpoagfldekppkaaDoor
