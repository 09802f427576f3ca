/-
  WHAT IS NEEDED OF THE DEVICE'S TEXTS, AS FAR AS THIS SEAT HAS ITS FUNCTIONS (put together by wip/only-there.py).
-/
import Derived.Test.YtkemhkmabbladaaGreatDoorSums
import Derived.Test.YtkemhkmabbladaaGreatDoorJoin
import Derived.Deep.RegionHeld3
import Derived.Deep.QuietTactic
import Derived.BigQuiet
namespace Go.Proofs.YtkemhkmabbladaaGreatDoor
open Go.RowKit Crc

theorem join_joined (ss : List ByteArray) : Lib.join (ss.map (·.data.toList)) [] = joined ss := by
  cases ss with
  | nil => rfl
  | cons x r =>
    rw [List.map_cons, Lib.join_cons]
    simp [Lib.joinTail, joined, List.flatMap]
    rfl

theorem join_any (a : Option Addr) (ss : List ByteArray) (cap : Nat) (w : World) (ha : StrsAt w a ss) (hc : ss.length ≤ cap) (hn : ss.length ≤ 140737488355328) (hl : (joined ss).length ≤ 140737488355328) :
    Calls Tryz.prog 69 #[.slice a ss.length cap, .string ⟨#[]⟩] w fun e w' => e = .returned (.string ⟨(joined ss).toArray⟩) ∧ Below w.heap.size w w' := by
  rcases ha with rfl | ⟨b, off, rfl, h⟩
  · refine (Tryz.strings_Join_none a cap ⟨#[]⟩ w).mono ?_
    rintro e w' ⟨rfl, rfl⟩
    exact ⟨rfl, Below.refl _ _⟩
  · by_cases h0 : ss = []
    · subst h0
      refine (Tryz.strings_Join_none _ cap ⟨#[]⟩ w).mono ?_
      rintro e w' ⟨rfl, rfl⟩
      exact ⟨rfl, Below.refl _ _⟩
    · have hp : 0 < ss.length := List.length_pos_iff.2 h0
      have hcell : ∀ (j : Nat) x, ss[j]? = some x → w.cell? ⟨b, off + j, none⟩ = some (.string x) := by
        intro j x hx
        have hj : j < ss.length := (List.getElem?_eq_some_iff.1 hx).1
        rw [h j hj, List.getD_eq_getElem?_getD, hx]; rfl
      have hb := cell_lt (h 0 hp)
      have e := join_joined ss
      refine (Tryz.strings_Join b off cap ss ⟨#[]⟩ w hcell hb hn hc (by
        show (Lib.join _ []).length ≤ _
        rw [e]; exact hl)).mono ?_
      rintro e' w' ⟨rfl, hb⟩
      refine ⟨?_, hb⟩
      show Ending.returned (.string ⟨(Lib.join _ []).toArray⟩) = _
      rw [e]

/-- What is sealed of bytes. -/
def sealStr (l : List UInt8) : ByteArray := ⟨l.toArray⟩ ++ laidStr l

theorem laid_size (l : List UInt8) : (laidStr l).size = 4 := by
  simp [laidStr, strOfNums, ByteArray.size]

set_option maxHeartbeats 400000 in
theorem seal_any (a : Option Addr) (ss : List ByteArray) (cap : Nat) (w : World) (hs : Short ss) (ha : StrsAt w a ss) (hc : ss.length ≤ cap) (hn : ss.length ≤ 140737488355328) (hl : (joined ss).length ≤ 140737488355328) (ht : Tab w) :
    Calls Tryz.prog 102 #[.slice a ss.length cap] w fun e w' => e = .returned (.string (sealStr (joined ss))) ∧ Below w.heap.size w w' := by
  have HT := Lib.hid ht; clear ht
  have HA := Lib.hid ha; clear ha
  have HSh := Lib.hid hs; clear hs
  go_enter Tryz.func102, Tryz.ntmps102
  go_wp2_with fail
  refine (join_any a ss cap _ HA.out hc hn hl).mono ?_
  rintro e w1 ⟨rfl, hb1⟩
  go_wp2_with fail
  refine (laid_any a ss cap _ HSh.out (by unfold maxLen; omega) (HA.out.below hb1) (HT.out.below hb1)).mono ?_
  rintro e w2 ⟨rfl, hb2⟩
  have hz := laid_size (joined ss)
  go_wp2
  go_ret
  exact ⟨rfl, hb1.trans (hb2.mono hb1.size)⟩

/-- Are bytes sealed? -/
def isSealed (s : ByteArray) : Bool := decide (4 ≤ s.size) && ((laidStr (s.data.toList.take (s.size - 4))).toList == (s.extract (s.size - 4) s.size).toList)
/-- What is sealed, and true; nothing, false. -/
def openRes (s : ByteArray) : ByteArray × Bool := if isSealed s then (s.extract 0 (s.size - 4), true) else (⟨#[]⟩, false)

theorem one_str (w : World) (p : ByteArray) (T : TypeId) : StrsAt (w.alloc (.cells #[.string p] T)) (some ⟨w.heap.size, 0, none⟩) [p] :=
  .inr ⟨w.heap.size, 0, rfl, fun i hi => by
    have h0 : i = 0 := by simpa using hi
    subst h0
    simp [World.cell?_alloc_at]⟩

theorem laid_one (p : ByteArray) (w : World) (hp : p.size ≤ maxLen) (ht : Tab w) :
    Calls Tryz.prog 121 #[.slice (some ⟨w.heap.size, 0, none⟩) 1 1] (w.alloc (.cells #[.string p] 9)).drew fun e w' => e = .returned (.string (laidStr p.data.toList)) ∧ Below w.heap.size w w' := by
  have hb : Below w.heap.size w (w.alloc (.cells #[.string p] 9)).drew := ((Below.refl _ w).alloc (Nat.le_refl _) _).drew
  have ha : StrsAt (w.alloc (.cells #[.string p] 9)).drew (some ⟨w.heap.size, 0, none⟩) [p] := (one_str w p _).below (Below.refl _ _).drew
  refine (laid_any (some ⟨w.heap.size, 0, none⟩) [p] 1 _ (fun x hx => by simp at hx; subst hx; exact hp) (by unfold maxLen; simp) ha (ht.below hb)).mono ?_
  rintro e w' ⟨rfl, hb2⟩
  refine ⟨?_, hb.trans (hb2.mono (by have := hb.size; omega))⟩
  have : joined [p] = p.data.toList := by simp [joined]
  rw [this]

theorem open_parts (s : ByteArray) : (4 ≤ s.size ∧ ((laidStr (s.data.toList.take (s.size - 4))).toList == (s.extract (s.size - 4) s.size).toList) = true ∧ openRes s = (s.extract 0 (s.size - 4), true)) ∨
    (4 ≤ s.size ∧ ((laidStr (s.data.toList.take (s.size - 4))).toList == (s.extract (s.size - 4) s.size).toList) = false ∧ openRes s = (⟨#[]⟩, false)) ∨ (s.size < 4 ∧ openRes s = (⟨#[]⟩, false)) := by
  by_cases h4 : 4 ≤ s.size
  · cases hx : ((laidStr (s.data.toList.take (s.size - 4))).toList == (s.extract (s.size - 4) s.size).toList)
    · exact .inr (.inl ⟨h4, rfl, by simp [openRes, isSealed, hx]⟩)
    · exact .inl ⟨h4, rfl, by simp [openRes, isSealed, hx, h4]⟩
  · exact .inr (.inr ⟨by omega, by simp [openRes, isSealed, h4]⟩)

end Go.Proofs.YtkemhkmabbladaaGreatDoor
