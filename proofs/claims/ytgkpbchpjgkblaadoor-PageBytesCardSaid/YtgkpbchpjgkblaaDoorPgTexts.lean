/-
  quadrigaref01.Texts OF THE SAME TEXTS; a text put into a row that rises.
-/
import Derived.Test.YtgkpbchpjgkblaaDoorPgKeysA
namespace Go.Proofs.YtgkpbchpjgkblaaDoor
open Go.RowKit
set_option maxHeartbeats 2000000 in
theorem texts_same (a : Option Addr) (ks : List ByteArray) (c : Nat) (a2 : Option Addr) (c2 : Nat) (w : World) (hl : ks.length ≤ 1000) (ha : KeysAt w a ks) (ha2 : KeysAt w a2 ks) :
    Calls Tryd.prog 21 #[.slice a ks.length c, .slice a2 ks.length c2] w fun e w' => e = .returned (.bool true) ∧ Below w.heap.size w w' := by
  have HA := Lib.hid ha
  have HA2 := Lib.hid ha2
  clear ha ha2
  go_enter Tryd.func21, Tryd.ntmps21
  go_wp2
  go_loopw [5] (fun i wr => ∃ k : Nat, k ≤ ks.length ∧ i = .int .i64 k ∧ ∃ nd, wr = w.drewN nd) (fun i _ => ks.length - (intOf i).toNat)
  case atStart => exact ⟨0, Nat.zero_le _, rfl, 0, rfl⟩
  case round =>
    obtain ⟨k, hk, rfl, nd, rfl⟩ := hrel
    by_cases hlt : k < ks.length
    · have hk0 : (0 : Int) ≤ (k : Int) := by omega
      have hk1 : (k : Int) < (ks.length : Int) := by omega
      obtain ⟨b, off, rfl, c1⟩ : ∃ b off, a = some ⟨b, off, none⟩ ∧ w.cell? ⟨b, off + k, none⟩ = some (.string (ks.getD k ByteArray.empty)) := by
        rcases HA.out with rfl | ⟨b, off, e, h⟩
        · simp at hlt
        · exact ⟨b, off, e, h k hlt⟩
      obtain ⟨b2, off2, rfl, c4⟩ : ∃ b off, a2 = some ⟨b, off, none⟩ ∧ w.cell? ⟨b, off + k, none⟩ = some (.string (ks.getD k ByteArray.empty)) := by
        rcases HA2.out with rfl | ⟨b, off, e, h⟩
        · simp at hlt
        · exact ⟨b, off, e, h k hlt⟩
      generalize ks.getD k ByteArray.empty = s1 at *
      go_wp2
      go_quiet (fail)
      go_wp2
      go_roundw
      case rel => exact ⟨k + 1, by omega, by go_num, nd + nq, rfl⟩
      case measure => simp [intOf]; omega
    · have hk1 : (ks.length : Int) ≤ (k : Int) := by omega
      go_wp2
      go_ret
      exact ⟨rfl, below_drewN (Below.refl _ _) _⟩
theorem inK_at {k : List UInt8} : ∀ {L : List (List UInt8)} {at' : Nat}, at' ≤ L.length → (∀ m, m < at' → L.getD m [] < k) → (at' < L.length → ¬ L.getD at' [] < k) →
    inK k L = if at' < L.length ∧ L.getD at' [] = k then L else L.take at' ++ k :: L.drop at'
  | [], at', h, _, _ => by
    have : at' = 0 := by simpa using h
    subst this
    simp [inK]
  | x :: L, 0, _, _, h2 => by
    have hx := h2 (by simp)
    simp only [List.getD_eq_getElem?_getD, List.getElem?_cons_zero, Option.getD_some] at hx
    rw [inK, if_neg hx]
    by_cases e : x = k
    · rw [if_pos e, if_pos ⟨by simp, by simpa using e⟩]
    · rw [if_neg e, if_neg (fun q => e (by simpa using q.2))]; rfl
  | x :: L, at' + 1, h, h1, h2 => by
    have hx := h1 0 (by omega)
    simp only [List.getD_eq_getElem?_getD, List.getElem?_cons_zero, Option.getD_some] at hx
    rw [inK, if_pos hx]
    have ih := inK_at (k := k) (L := L) (at' := at') (by simpa using h) (fun m hm => by have := h1 (m + 1) (by omega); simpa using this) (fun hl => by have := h2 (by simpa using hl); simpa using this)
    rw [ih]
    by_cases e : at' < L.length ∧ L.getD at' [] = k
    · rw [if_pos e, if_pos ⟨by simpa using e.1, by simpa using e.2⟩]
    · rw [if_neg e, if_neg (fun q => e ⟨by simpa using q.1, by simpa using q.2⟩)]; rfl
theorem inAll_succ (ks : List (List UInt8)) (k : Nat) (h : k < ks.length) : inAll (ks.take (k + 1)) = inK (ks.getD k []) (inAll (ks.take k)) := by
  unfold inAll
  rw [List.take_succ_eq_append_getElem h, List.foldl_append, List.getD_eq_getElem?_getD, List.getElem?_eq_getElem h]
  rfl
/-- The row while its texts move one place on. -/
theorem move_one {L : List ByteArray} {j : Nat} (hj : j < L.length) (g : ByteArray) : (L.take (j + 1) ++ g :: L.drop (j + 1)).set (j + 1) (L.getD j ByteArray.empty) = L.take j ++ (L.getD j ByteArray.empty) :: L.drop j := by
  have hd : L.drop j = L.getD j ByteArray.empty :: L.drop (j + 1) := by
    rw [List.drop_eq_getElem_cons hj, List.getD_eq_getElem?_getD, List.getElem?_eq_getElem hj]; rfl
  have ht : L.take (j + 1) = L.take j ++ [L.getD j ByteArray.empty] := by
    rw [List.take_succ_eq_append_getElem hj, List.getD_eq_getElem?_getD, List.getElem?_eq_getElem hj]; rfl
  have hl : (L.take (j + 1)).length = j + 1 := by rw [List.length_take]; omega
  rw [List.set_append_right _ _ (by omega), hl, Nat.sub_self, List.set_cons_zero, ht, hd, List.append_assoc]
  rfl
theorem move_get {L : List ByteArray} {j : Nat} (hj : j < L.length) (g : ByteArray) : (L.take (j + 1) ++ g :: L.drop (j + 1)).getD j ByteArray.empty = L.getD j ByteArray.empty := by
  have hl : (L.take (j + 1)).length = j + 1 := by rw [List.length_take]; omega
  rw [List.getD_eq_getElem?_getD, List.getElem?_append_left (by omega), List.getElem?_take_of_lt (by omega), ← List.getD_eq_getElem?_getD]
theorem move_last {L : List ByteArray} {j : Nat} (hj : j ≤ L.length) (g k : ByteArray) : (L.take j ++ g :: L.drop j).set j k = L.take j ++ k :: L.drop j := by
  have hl : (L.take j).length = j := by rw [List.length_take]; omega
  rw [List.set_append_right _ _ (by omega), hl, Nat.sub_self, List.set_cons_zero]
theorem move_len {L : List ByteArray} {j : Nat} (hj : j ≤ L.length) (g : ByteArray) : (L.take j ++ g :: L.drop j).length = L.length + 1 := by
  rw [List.length_append, List.length_take, List.length_cons, List.length_drop]; omega
theorem ofB_get (l : List (List UInt8)) (m : Nat) (hm : m < l.length) : ((ofB l).getD m ByteArray.empty) = ⟨(l.getD m []).toArray⟩ := by
  unfold ofB
  rw [List.getD_eq_getElem?_getD, List.getElem?_map, List.getD_eq_getElem?_getD, List.getElem?_eq_getElem hm]; rfl
theorem lb_get (l : List ByteArray) (m : Nat) (hm : m < l.length) : ((lb l).getD m []) = (l.getD m ByteArray.empty).data.toList := by
  unfold lb
  rw [List.getD_eq_getElem?_getD, List.getElem?_map, List.getD_eq_getElem?_getD, List.getElem?_eq_getElem hm]; rfl
theorem ofB_lb (l : List ByteArray) : ofB (lb l) = l := by unfold ofB lb; simp [Function.comp_def]
/-- A store into a row of texts of the call's own. -/
theorem rowS_set {W : World} {B g cap : Nat} {ts : List ByteArray} (h : RowS W B (.slice (some ⟨g, 0, none⟩) ts.length cap) ts) (j : Nat) (t : ByteArray) :
    RowS (W.setCell ⟨g, j, none⟩ (.string t)) B (.slice (some ⟨g, 0, none⟩) (ts.set j t).length cap) (ts.set j t) ∧ W.grownBy (W.setCell ⟨g, j, none⟩ (.string t)) (some g) := by
  obtain ⟨h1, h2⟩ := World.ownsRow.stored h j (.string t)
  refine ⟨?_, h2⟩
  unfold RowS
  rw [List.length_set, List.map_set]
  exact h1
end Go.Proofs.YtgkpbchpjgkblaaDoor
