/-
  THE CONTRACTS OF record.told, quadrigaref04.Told, strconv.Itoa; a record's words.
-/
import Derived.Test.YtlggbbaigcnpjaaDoorRpNum
import Derived.Test.YtlggbbaigcnpjaaDoorRcGreat
import Derived.Test.YtlggbbaigcnpjaaDoorRcRefRight
import Derived.Test.YtlggbbaigcnpjaaDoorRcOpen
import Derived.Lib.AppendIntMem
namespace Go.Proofs.YtlggbbaigcnpjaaDoor
open Go.RowKit

theorem ba_len (s : ByteArray) : s.data.toList.length = s.size := Array.length_toList
def toldL (h : Bool) (s : ByteArray) : List UInt8 := if h then 118 :: hexL s.data.toList else [45]
set_option maxHeartbeats 1000000 in
theorem told_any (h : Bool) (s : ByteArray) (w : World) (hs : s.size ≤ 1000) :
    Calls Tryd.prog 32 #[.agg #[.bool h, .string s]] w fun e w' => e = .returned (.string (txt (toldL h s))) ∧ Below w.heap.size w w' := by
  cases h
  · go_enter Tryd.func32, Tryd.ntmps32
    go_wp2
    go_ret
    exact ⟨rfl, bw_alloc (Below.refl _ _)⟩
  · have KH := Lib.hid (fun W => hex_any s W hs)
    have hl := hexL_len s.data.toList
    rw [ba_len] at hl
    have HC := Lib.hid (txt_cat [118] (hexL s.data.toList))
    have HT : Hid (txt (toldL true s) = txt ([118] ++ hexL s.data.toList)) := rfl
    have hz : ¬ 9223372036854775807 < (⟨#[118]⟩ : ByteArray).size + (txt (hexL s.data.toList)).size := by rw [txt_size, hl]; show ¬ 9223372036854775807 < 1 + 2 * s.size; omega
    have KH2 : Hid (∀ W, Calls Tryd.prog 31 #[.string s] W fun e w' => e = .returned (.string (txt (hexL s.data.toList))) ∧ Below W.heap.size W w') := KH
    generalize txt (hexL s.data.toList) = T at HC hz KH2
    clear KH hl
    go_enter Tryd.func32, Tryd.ntmps32
    go_wp2_with fail
    refine (KH2.out _).mono ?_
    rintro x w1 ⟨rfl, hb1⟩
    go_wp2
    go_ret
    exact ⟨by rw [HT.out, ← HC.out]; rfl, bw_call hb1 (bw_alloc (Below.refl _ _))⟩
set_option maxHeartbeats 1000000 in
theorem refTold_any (h : Bool) (s : ByteArray) (w : World) (hs : s.size ≤ 1000) :
    Calls Tryd.prog 36 #[.agg #[.bool h, .string s]] w fun e w' => e = .returned (.string (txt (toldL h s))) ∧ Below w.heap.size w w' := by
  cases h
  · go_enter Tryd.func36, Tryd.ntmps36
    go_wp2
    go_ret
    exact ⟨rfl, bw_alloc (Below.refl _ _)⟩
  · have KH := Lib.hid (fun W => refHex_any s W hs)
    have hl := hexL_len s.data.toList
    rw [ba_len] at hl
    have HC := Lib.hid (txt_cat [118] (hexL s.data.toList))
    have HT : Hid (txt (toldL true s) = txt ([118] ++ hexL s.data.toList)) := rfl
    have hz : ¬ 9223372036854775807 < (⟨#[118]⟩ : ByteArray).size + (txt (hexL s.data.toList)).size := by rw [txt_size, hl]; show ¬ 9223372036854775807 < 1 + 2 * s.size; omega
    have KH2 : Hid (∀ W, Calls Tryd.prog 35 #[.string s] W fun e w' => e = .returned (.string (txt (hexL s.data.toList))) ∧ Below W.heap.size W w') := KH
    generalize txt (hexL s.data.toList) = T at HC hz KH2
    clear KH hl
    go_enter Tryd.func36, Tryd.ntmps36
    go_wp2_with fail
    refine (KH2.out _).mono ?_
    rintro x w1 ⟨rfl, hb1⟩
    go_wp2
    go_ret
    exact ⟨by rw [HT.out, ← HC.out]; rfl, bw_call hb1 (bw_alloc (Below.refl _ _))⟩
/-- The table of strconv.Itoa. -/
def Tab (W : World) : Prop := Lib.TabIs Tryd.prog W "internal/strconv.uint64pow10" .u64 Lib.pow10Tab
theorem Tab.below {W W' : World} (h : Tab W) (hb : Below W.heap.size W W') : Tab W' :=
  Go.Joins.tab_stays (g := 1) (by kernel_rfl) h hb (Nat.le_refl _)
theorem Tab.alloc {W : World} (h : Tab W) {o : Obj} : Tab (W.alloc o) := Lib.tabIs_alloc h o
theorem Tab.drew {W : World} (h : Tab W) : Tab W.drew := h
theorem itoa_any (n : Int) (h0 : 0 ≤ n) (h1 : n ≤ 4611686018427387903) (W : World) (h : Tab W) :
    Calls Tryd.prog 30 #[.int .i64 n] W fun e w' => e = .returned (.string (txt (Lib.decDigits n.toNat))) ∧ Below W.heap.size W w' := by
  refine (Tryd.strconv_Itoa n (by omega) (by omega) W h).mono ?_
  rintro e w' ⟨rfl, k, os, rfl⟩
  refine ⟨?_, Lib.below_grow _ _ (Nat.le_refl _) _ _⟩
  unfold Lib.itoa
  rw [if_neg (by omega)]
  rfl
end Go.Proofs.YtlggbbaigcnpjaaDoor
