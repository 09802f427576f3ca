/-
  THE CONTRACTS OF quadrigaref04.at, cut: a byte, and bytes, of a text, as many as there are.
-/
import Derived.Test.YtlggbbaigcnpjaaDoorNRefTake
import Derived.Test.YtlggbbaigcnpjaaDoorNRefPut
import Derived.Test.YtlggbbaigcnpjaaDoorRcDec
namespace Go.Proofs.YtlggbbaigcnpjaaDoor
open Go.RowKit

def atOf (s : ByteArray) (i : Nat) : Nat := (s.data.toList.getD i 0).toNat
theorem atOf_in {s : ByteArray} {i : Nat} (h : i < s.size) : atOf s i = s[i].toNat := by
  unfold atOf
  have hl : i < s.data.toList.length := by rw [Array.length_toList]; exact h
  rw [List.getD_eq_getElem?_getD, List.getElem?_eq_getElem hl]
  rfl
theorem atOf_out {s : ByteArray} {i : Nat} (h : s.size ≤ i) : atOf s i = 0 := by
  unfold atOf
  have hl : s.data.toList.length ≤ i := by rw [Array.length_toList]; exact h
  rw [List.getD_eq_getElem?_getD, List.getElem?_eq_none hl]
  rfl
theorem refAt_any (s : ByteArray) (i : Nat) (w : World) (_hs : s.size ≤ 1000) (_hi : i ≤ 2000) :
    Calls Tryd.prog 22 #[.string s, .int .i64 (i : Int)] w fun e w' => e = .returned (.int .i64 (atOf s i : Int)) ∧ w = w' := by
  have h0 : (0 : Int) ≤ (i : Int) := by omega
  by_cases h : i < s.size
  · have HA := Lib.hid (atOf_in h)
    have h1 : (i : Int) < (s.size : Int) := by omega
    go_enter Tryd.func22, Tryd.ntmps22
    go_wp2
    go_ret
    have hb := s[i].toNat_lt
    exact ⟨ret_i64 (by
      rw [HA.out]
      unfold wrap64; omega), rfl⟩
  · have HA := Lib.hid (atOf_out (s := s) (i := i) (by omega))
    have h1 : (s.size : Int) ≤ (i : Int) := by omega
    go_enter Tryd.func22, Tryd.ntmps22
    go_wp2
    go_ret
    exact ⟨by rw [HA.out]; rfl, rfl⟩
def cutOf (s : ByteArray) (f n : Nat) : ByteArray := s.extract (min f s.size) (min (min f s.size + n) s.size)
theorem refCut_any (s : ByteArray) (f n : Nat) (w : World) (hs : s.size ≤ 1000) (hf : f ≤ 2000) (hn : n ≤ 2000) :
    Calls Tryd.prog 24 #[.string s, .int .i64 (f : Int), .int .i64 (n : Int)] w fun e w' => e = .returned (.string (cutOf s f n)) ∧ w = w' := by
  go_enter Tryd.func24, Tryd.ntmps24
  go_wp2
  go_ret
  exact ⟨ret_str (by
    unfold cutOf
    congr 1 <;> omega), rfl⟩
end Go.Proofs.YtlggbbaigcnpjaaDoor
