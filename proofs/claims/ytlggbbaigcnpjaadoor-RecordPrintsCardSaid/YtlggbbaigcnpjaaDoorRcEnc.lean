/-
  THE CONTRACT OF record.Encode: any record's bytes, or that it has none.
-/
import Derived.Test.YtlggbbaigcnpjaaDoorRcLaid
import Derived.Test.YtlggbbaigcnpjaaDoorRcAllRc
import Derived.ChangeKeysEq
namespace Go.Proofs.YtlggbbaigcnpjaaDoor
open Go.RowKit

/-- A record's cells in a block. -/
def RcIn (W : World) (G : Nat) (k g t p pg u : Int) (key sb sa : ByteArray) (hb ha : Bool) : Prop :=
  W.cell? ⟨G, 0, none⟩ = some (.int .i64 k) ∧ W.cell? ⟨G, 1, none⟩ = some (.int .i64 g) ∧ W.cell? ⟨G, 2, none⟩ = some (.int .i64 t) ∧ W.cell? ⟨G, 3, none⟩ = some (.int .i64 p) ∧ W.cell? ⟨G, 4, none⟩ = some (.int .i64 pg) ∧ W.cell? ⟨G, 5, none⟩ = some (.string key) ∧ W.cell? ⟨G, 6, none⟩ = some (.bool hb) ∧ W.cell? ⟨G, 7, none⟩ = some (.string sb) ∧ W.cell? ⟨G, 8, none⟩ = some (.bool ha) ∧ W.cell? ⟨G, 9, none⟩ = some (.string sa) ∧ W.cell? ⟨G, 10, none⟩ = some (.int .i64 u)
theorem rcIn_new (W : World) (G : Nat) (k g t p pg u : Int) (key sb sa : ByteArray) (hb ha : Bool) (T : TypeId) (hG : G = W.heap.size) :
    RcIn (W.alloc (.cells #[.int .i64 k, .int .i64 g, .int .i64 t, .int .i64 p, .int .i64 pg, .string key, .bool hb, .string sb, .bool ha, .string sa, .int .i64 u] T)) G k g t p pg u key sb sa hb ha :=
  ⟨new_cell hG rfl, new_cell hG rfl, new_cell hG rfl, new_cell hG rfl, new_cell hG rfl, new_cell hG rfl, new_cell hG rfl, new_cell hG rfl, new_cell hG rfl, new_cell hG rfl, new_cell hG rfl⟩
theorem right_at (k g t p pg u : Int) (key sb sa : ByteArray) (hb ha : Bool) (G : Nat) (W : World) (h : RcIn W G k g t p pg u key sb sa hb ha) :
    Calls Tryd.prog 14 #[.slice (some ⟨G, 0, none⟩) 1 1] W
      fun e w' => e = .returned (.bool (rcOk k g t p pg key hb sb ha sa u)) ∧ Below W.heap.size W w' := by
  refine (right_any (some ⟨G, 0, none⟩) [⟨k, g, t, p, pg, key, hb, sb, ha, sa, u⟩] 1 W (by simp) (.inr ⟨G, 0, rfl, fun i hi => by
    match i, hi with
    | 0, _ => exact h⟩)).mono ?_
  rintro e w' ⟨rfl, hb'⟩
  exact ⟨by simp [Rc.ok], hb'⟩

def encHead (k t p : Int) : ByteArray := num 1 k ++ num 4 t ++ num 8 p
def encMid (pg : Int) (key : ByteArray) (hb : Bool) (sb : ByteArray) (ha : Bool) (sa : ByteArray) : ByteArray := num 1 pg ++ num 1 (key.size : Int) ++ key ++ valS hb sb ++ valS ha sa
def encBody (k t p pg : Int) (key : ByteArray) (hb : Bool) (sb : ByteArray) (ha : Bool) (sa : ByteArray) : ByteArray := if (k == 2 || k == 3) then encHead k t p ++ encMid pg key hb sb ha sa else encHead k t p
def encStr (k t p pg : Int) (key : ByteArray) (hb : Bool) (sb : ByteArray) (ha : Bool) (sa : ByteArray) (u : Int) : ByteArray :=
  if 0 < usz k then encBody k t p pg key hb sb ha sa ++ num (usz k) u else encBody k t p pg key hb sb ha sa

set_option maxHeartbeats 1000000 in
theorem encode_no (k g t p pg u : Int) (key sb sa : ByteArray) (hb ha : Bool) (w : World) (h : rcOk k g t p pg key hb sb ha sa u = false) :
    Calls Tryd.prog 7 #[.agg #[.int .i64 k, .int .i64 g, .int .i64 t, .int .i64 p, .int .i64 pg, .string key, .bool hb, .string sb, .bool ha, .string sa, .int .i64 u]] w
      fun e w' => e = .returned (.tuple #[.string ⟨#[]⟩, .int .i64 1]) ∧ Below w.heap.size w w' := by
  have HR := Lib.hid (right_at k g t p pg u key sb sa hb ha)
  rw [h] at HR
  clear h
  go_enter Tryd.func7, Tryd.ntmps7
  go_wp2_with fail
  refine (HR.out _ _ ?_).mono ?_
  · exact rcIn_new _ _ _ _ _ _ _ _ _ _ _ _ _ _ (by rw [World.size_alloc])
  rintro x w1 ⟨rfl, hb1⟩
  go_wp2
  go_ret2
  exact ⟨rfl, bw_call hb1 (bw_alloc (bw_alloc (Below.refl _ _)))⟩

theorem rcOk_num {k g t p pg u : Int} {key sb sa : ByteArray} {hb ha : Bool} (h : rcOk k g t p pg key hb sb ha sa u = true) :
    1 ≤ k ∧ k ≤ 6 ∧ 1 ≤ t ∧ t ≤ 2147483647 ∧ 1 ≤ g ∧ g ≤ 4611686018427387903 ∧ 0 ≤ p ∧ p ≤ g - 1 := by
  unfold rcOk rcNum at h
  simp only [Bool.and_eq_true, decide_eq_true_eq] at h
  omega
theorem rcOk_u {k g t p pg u : Int} {key sb sa : ByteArray} {hb ha : Bool} (h : rcOk k g t p pg key hb sb ha sa u = true) : 0 ≤ u ∧ u ≤ 4611686018427387903 := by
  have hn := rcOk_num h
  unfold rcOk at h
  simp only [Bool.and_eq_true, decide_eq_true_eq] at h
  have hu := h.1.2
  unfold rcUndone at hu
  split at hu
  · simp only [Bool.and_eq_true, decide_eq_true_eq] at hu; omega
  · split at hu
    · simp only [Bool.and_eq_true, decide_eq_true_eq] at hu; omega
    · simp only [beq_iff_eq] at hu; omega
theorem size_toNil {s : ByteArray} (h : s.toList = []) : s.size = 0 := by
  have h2 : s.data.toList = [] := by rw [← ByteArray.toList_eq]; exact h
  have h3 : s.data.toList.length = s.size := Array.length_toList
  rw [h2] at h3
  exact h3.symm
theorem rcOk_chg {k g t p pg u : Int} {key sb sa : ByteArray} {hb ha : Bool} (h : rcOk k g t p pg key hb sb ha sa u = true) (hc : (k == 2 || k == 3) = true) :
    0 ≤ pg ∧ pg ≤ 63 ∧ 1 ≤ key.size ∧ key.size ≤ 8 ∧ sb.size ≤ 16 ∧ sa.size ≤ 16 := by
  unfold rcOk rcChg at h
  rw [hc] at h
  simp only [Bool.and_eq_true, Bool.not_true, Bool.false_or, decide_eq_true_eq, kyOk] at h
  obtain ⟨⟨⟨_, ⟨⟨⟨h1, h2⟩, h3, h4⟩, h5, h6⟩, _⟩, _⟩, _⟩ := h
  have hv : ∀ (b : Bool) (s : ByteArray), vlOk b s = true → s.size ≤ 16 := fun b s hs => by
    unfold vlOk at hs
    cases b
    · simp only [Bool.false_and, Bool.not_false, Bool.true_and, Bool.false_or, decide_eq_true_eq] at hs
      have := size_toNil hs
      omega
    · simp only [Bool.true_and, Bool.not_true, Bool.false_and, Bool.or_false, decide_eq_true_eq] at hs
      omega
  have := hv _ _ h5
  have := hv _ _ h6
  omega
end Go.Proofs.YtlggbbaigcnpjaaDoor
