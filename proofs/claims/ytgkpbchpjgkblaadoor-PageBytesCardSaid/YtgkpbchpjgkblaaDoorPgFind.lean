/-
  THE CONTRACT OF page.find (a binary search, by strings.Compare).
-/
import Derived.Test.YtgkpbchpjgkblaaDoorPgRight
import Derived.Test.YtgkpbchpjgkblaaDoorJoin
import Derived.Deep.RegionHeld3
namespace Go.Proofs.YtgkpbchpjgkblaaDoor
open Go.RowKit
theorem cmp_lt : ∀ a b : List UInt8, decide (Lib.compareBytes a b < 0) = Op.bytesLess a b
  | [], [] => rfl
  | [], _ :: _ => rfl
  | _ :: _, [] => rfl
  | x :: a, y :: b => by
    have ih := cmp_lt a b
    show decide ((if x < y then (-1 : Int) else if y < x then 1 else Lib.compareBytes a b) < 0) = (decide (x < y) || (x == y && Op.bytesLess a b))
    by_cases h1 : x < y
    · rw [if_pos h1, decide_eq_true h1]; rfl
    · rw [if_neg h1, decide_eq_false h1, Bool.false_or]
      by_cases h2 : y < x
      · rw [if_pos h2]
        have : (x == y) = false := by
          rw [beq_eq_false_iff_ne]; intro e; subst e; exact h1 h2
        rw [this]; rfl
      · rw [if_neg h2]
        have : x = y := by
          rw [UInt8.lt_iff_toNat_lt] at h1 h2
          exact UInt8.toNat_inj.1 (by omega)
        subst this
        rw [beq_self_eq_true, Bool.true_and]; exact ih
theorem cmp_eq : ∀ a b : List UInt8, (Lib.compareBytes a b == 0) = decide (a = b)
  | [], [] => rfl
  | [], _ :: _ => rfl
  | _ :: _, [] => rfl
  | x :: a, y :: b => by
    have ih := cmp_eq a b
    show ((if x < y then (-1 : Int) else if y < x then 1 else Lib.compareBytes a b) == 0) = decide (x :: a = y :: b)
    by_cases h1 : x < y
    · rw [if_pos h1]
      have : ¬ x :: a = y :: b := fun e => by
        injection e with e _; subst e; exact UInt8.lt_irrefl _ h1
      rw [decide_eq_false this]; rfl
    · rw [if_neg h1]
      by_cases h2 : y < x
      · rw [if_pos h2]
        have : ¬ x :: a = y :: b := fun e => by
          injection e with e _; subst e; exact UInt8.lt_irrefl _ h2
        rw [decide_eq_false this]; rfl
      · rw [if_neg h2]
        have hxy : x = y := by
          rw [UInt8.lt_iff_toNat_lt] at h1 h2
          exact UInt8.toNat_inj.1 (by omega)
        subst hxy
        rw [ih]
        by_cases e : a = b
        · subst e; simp
        · rw [decide_eq_false e, decide_eq_false (fun x => e (by injection x))]
def cmpB (a b : ByteArray) : Int := Lib.compareBytes a.data.toList b.data.toList
theorem cmpB_lt (a b : ByteArray) : decide (cmpB a b < 0) = upC a b := by
  unfold cmpB upC
  rw [cmp_lt, ByteArray.toList_eq, ByteArray.toList_eq]
theorem cmpB_eq (a b : ByteArray) : (cmpB a b == 0) = decide (a = b) := by
  unfold cmpB
  rw [cmp_eq, ← ba_beqL, Bool.eq_iff_iff, decide_eq_true_iff, beq_iff_eq, ByteArray.toList_eq, ByteArray.toList_eq]
theorem cmp_any (k v key : ByteArray) (w : World) : Calls Tryd.prog 48 #[.agg #[.string k, .string v], .string key] w fun e w' => e = .returned (.int .i64 (cmpB k key)) ∧ Below w.heap.size w w' := by
  have KC := Lib.hid (fun W => Tryd.strings_Compare k key W)
  have HB : Below w.heap.size w (w.alloc (.cells #[.string k, .string v] 44)) := (Below.refl _ _).alloc (Nat.le_refl _) _
  go_enter Tryd.func48, Tryd.ntmps48
  go_wp2_with fail
  refine (KC.out _).mono ?_
  rintro e w5 ⟨rfl, rfl⟩
  go_wp2
  go_ret
  exact ⟨rfl, HB⟩
/-- Where a key stands, or would stand. -/
structure PosOf (l : List (ByteArray × ByteArray)) (key : ByteArray) (n : Nat) : Prop where
  le : n ≤ l.length
  lo : ∀ m, m < n → upC (l.getD m noCl).1 key = true
  hi : ∀ m, n ≤ m → m < l.length → upC (l.getD m noCl).1 key = false
def foundB (l : List (ByteArray × ByteArray)) (key : ByteArray) (n : Nat) : Bool := decide (n < l.length) && decide ((l.getD n noCl).1 = key)
def FindPost (l : List (ByteArray × ByteArray)) (key : ByteArray) (w : World) (e : Ending) (w' : World) : Prop :=
  ∃ n, PosOf l key n ∧ e = .returned (.tuple #[.int .i64 (n : Int), .bool (foundB l key n)]) ∧ Below w.heap.size w w'
/-- The keys rise. -/
def RiseL (l : List (ByteArray × ByteArray)) : Prop := ∀ i j, i < j → j < l.length → upC (l.getD i noCl).1 (l.getD j noCl).1 = true
theorem less_trans : ∀ a b c : List UInt8, Op.bytesLess a b = true → Op.bytesLess b c = true → Op.bytesLess a c = true
  | [], b, [], _, h => by cases b <;> cases h
  | [], _, _ :: _, _, _ => rfl
  | _ :: _, [], _, h, _ => by cases h
  | _ :: _, _ :: _, [], _, h => by cases h
  | x :: a, y :: b, z :: c, h1, h2 => by
    have k1 : (decide (x < y) || (x == y && Op.bytesLess a b)) = true := h1
    have k2 : (decide (y < z) || (y == z && Op.bytesLess b c)) = true := h2
    clear h1 h2
    show (decide (x < z) || (x == z && Op.bytesLess a c)) = true
    rw [Bool.or_eq_true, Bool.and_eq_true, decide_eq_true_iff, beq_iff_eq] at k1 k2 ⊢
    rcases k1 with k1 | ⟨e1, k1⟩
    · rcases k2 with k2 | ⟨e2, k2⟩
      · exact .inl (UInt8.lt_trans k1 k2)
      · exact .inl (by rw [← e2]; exact k1)
    · rcases k2 with k2 | ⟨e2, k2⟩
      · exact .inl (by rw [e1]; exact k2)
      · exact .inr ⟨e1.trans e2, less_trans a b c k1 k2⟩
theorem upC_trans {a b c : ByteArray} (h1 : upC a b = true) (h2 : upC b c = true) : upC a c = true := less_trans _ _ _ h1 h2
theorem upC_tri (a b : ByteArray) : (upC a b || a.toList == b.toList) = !upC b a := less_tri _ _
theorem upC_irrefl (a : ByteArray) : upC a a = false := by
  have := upC_tri a a
  rw [beq_self_eq_true, Bool.or_true] at this
  cases h : upC a a
  · rfl
  · rw [h] at this; cases this
section
set_option maxRecDepth 100000 in
set_option maxHeartbeats 4000000 in
theorem bsearch_any (a : Option Addr) (l : List (ByteArray × ByteArray)) (c : Nat) (key : ByteArray) (w : World) (hn : l.length ≤ 1000) (hr : RiseL l) (ha : ClsAt w a l) :
    Calls Tryd.prog 47 #[.slice a l.length c, .string key, .func (.func 48) #[] #[]] w (FindPost l key w) := by
  have HA := Lib.hid ha; clear ha
  have HR := Lib.hid hr; clear hr
  have KC := Lib.hid (fun k v W => cmp_any k v key W)
  go_enter Tryd.func47, Tryd.ntmps47
  go_wp2
  go_loopw [9, 10] (fun v1 v2 wr => ∃ i j : Nat, i ≤ j ∧ j ≤ l.length ∧ v1 = .int .i64 i ∧ v2 = .int .i64 j ∧ Hid (∀ m, m < i → upC (l.getD m noCl).1 key = true) ∧ Hid (∀ m, j ≤ m → m < l.length → upC (l.getD m noCl).1 key = false) ∧ Hid (Below w.heap.size w wr)) (fun v1 v2 _ => (intOf v2).toNat - (intOf v1).toNat)
  case atStart => exact ⟨0, l.length, by omega, Nat.le_refl _, rfl, rfl, fun m hm => by omega, fun m h1 h2 => by omega, Below.refl _ _⟩
  case round =>
    obtain ⟨i, j, hij, hj, rfl, rfl, h1, h2, hb⟩ := hrel
    rename World => wa
    by_cases hlt : i < j
    · obtain ⟨h, hh⟩ : ∃ h, h = (i + j) / 2 := ⟨_, rfl⟩
      have hih : i ≤ h := by omega
      have hhj : h < j := by omega
      have hhl : h < l.length := by omega
      have hi0 : (i : Int) < (j : Int) := by omega
      have hs1 : (0 : Int) ≤ (i : Int) + (j : Int) := by omega
      have hs2 : (i : Int) + (j : Int) ≤ 2000 := by omega
      have hd : ((i : Int) + (j : Int)) / 2 = (h : Int) := by omega
      obtain ⟨b, off, rfl, c1, c2⟩ := (HA.out.below hb.out).at hhl
      have hL := cmpB_lt (l.getD h noCl).1 key
      have hLo : Hid (upC (l.getD h noCl).1 key = true → ∀ m, m < h + 1 → upC (l.getD m noCl).1 key = true) := fun hu m hm => by
        by_cases e : m = h
        · rw [e]; exact hu
        · exact upC_trans (HR.out m h (by omega) hhl) hu
      have hHi : Hid (upC (l.getD h noCl).1 key = false → ∀ m, h ≤ m → m < l.length → upC (l.getD m noCl).1 key = false) := fun hu m h1 h2 => by
        by_cases e : m = h
        · rw [e]; exact hu
        · cases hc : upC (l.getD m noCl).1 key with
          | false => rfl
          | true =>
            have := upC_trans (HR.out h m (by omega) h2) hc
            rw [hu] at this; cases this
      have K1 := Lib.hid (fun W => KC.out (l.getD h noCl).1 (l.getD h noCl).2 W)
      generalize (l.getD h noCl).2 = s2 at *
      generalize (l.getD h noCl).1 = s1 at *
      clear hh
      cases hu : upC s1 key with
      | true =>
        have hS := Lib.hid (hLo.out hu)
        rw [hu] at hL
        generalize cmpB s1 key = z at *
        have hz : z < 0 := by simpa using hL
        clear hLo hHi hu hL h1
        go_wp2_with fail
        refine (K1.out _).mono ?_
        rintro e w5 ⟨rfl, hb5⟩
        have HB := Lib.hid (hb.out.trans (hb5.mono hb.out.size))
        clear hb hb5 K1 c1 c2
        go_wp2
        go_roundw
        case rel => exact ⟨h + 1, j, by omega, by omega, by go_num, rfl, hS, h2, HB⟩
        case measure => simp [intOf]; omega
      | false =>
        have hS := Lib.hid (hHi.out hu)
        rw [hu] at hL
        generalize cmpB s1 key = z at *
        have hz : 0 ≤ z := by simpa using hL
        clear hLo hHi hu hL h2
        go_wp2_with fail
        refine (K1.out _).mono ?_
        rintro e w5 ⟨rfl, hb5⟩
        have HB := Lib.hid (hb.out.trans (hb5.mono hb.out.size))
        clear hb hb5 K1 c1 c2
        go_wp2
        go_roundw
        case rel => exact ⟨i, h, by omega, by omega, rfl, rfl, h1, hS, HB⟩
        case measure => simp [intOf]; omega
    · obtain rfl : i = j := by omega
      have hP := Lib.hid (PosOf.mk hj h1.out h2.out)
      have hi0 : (i : Int) ≤ (i : Int) := Int.le_refl _
      clear h1 h2
      by_cases hil : i < l.length
      · have hi1 : (i : Int) < (l.length : Int) := by omega
        obtain ⟨b, off, rfl, c1, c2⟩ := (HA.out.below hb.out).at hil
        have hF : Hid (foundB l key i = decide ((l.getD i noCl).1 = key)) := by
          show _ = _
          unfold foundB; rw [decide_eq_true hil, Bool.true_and]
        have hL := cmpB_eq (l.getD i noCl).1 key
        have K1 := Lib.hid (fun W => KC.out (l.getD i noCl).1 (l.getD i noCl).2 W)
        generalize (l.getD i noCl).2 = s2 at *
        generalize (l.getD i noCl).1 = s1 at *
        generalize decide (s1 = key) = q at *
        generalize cmpB s1 key = z at *
        have HL := Lib.hid hL
        clear hL
        go_wp2_with fail
        refine (K1.out _).mono ?_
        rintro e w5 ⟨rfl, hb5⟩
        have HB := Lib.hid (hb.out.trans (hb5.mono hb.out.size))
        have hL := HL.out
        clear hb hb5 K1 c1 c2 HL
        go_wp2
        go_ret2
        exact ⟨i, hP.out, by rw [hF.out]; rfl, HB.out⟩
      · have hi1 : (l.length : Int) ≤ (i : Int) := by omega
        have hF : Hid (foundB l key i = false) := by
          show _ = _
          unfold foundB; rw [decide_eq_false hil, Bool.false_and]
        go_wp2
        go_ret2
        exact ⟨i, hP.out, by rw [hF.out]; rfl, hb.out⟩
theorem find_any (a : Option Addr) (l : List (ByteArray × ByteArray)) (c : Nat) (key : ByteArray) (w : World) (hn : l.length ≤ 1000) (hr : RiseL l) (ha : ClsAt w a l) :
    Calls Tryd.prog 28 #[.slice a l.length c, .string key] w (FindPost l key w) := by
  have KB := Lib.hid (bsearch_any a l c key w hn hr ha)
  clear ha hr
  go_enter Tryd.func28, Tryd.ntmps28
  go_wp2_with fail
  refine KB.out.mono ?_
  rintro e w5 ⟨n, hp, rfl, hb⟩
  go_wp2
  go_ret2
  exact ⟨n, hp, rfl, hb⟩
end
end Go.Proofs.YtgkpbchpjgkblaaDoor
