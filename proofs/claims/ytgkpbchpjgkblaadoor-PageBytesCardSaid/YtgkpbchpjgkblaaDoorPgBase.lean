/-
  A PAGE's CELLS IN MEMORY; the contracts of record.Has, of Get, Same, Equal, and of the reference's Get, Same, Great.
-/
import Derived.Test.YtgkpbchpjgkblaaDoorPgRec
import Derived.BigQuiet
import Derived.Deep.QuietTactic
namespace Go.Proofs.YtgkpbchpjgkblaaDoor
open Go.RowKit
def noCl : ByteArray × ByteArray := (ByteArray.empty, ByteArray.empty)
/-- A slice of cells that reads as these. -/
def ClsAt (W : World) (a : Option Addr) (l : List (ByteArray × ByteArray)) : Prop :=
  l = [] ∨ ∃ b off, a = some ⟨b, off, none⟩ ∧ ∀ i, i < l.length → W.cell? ⟨b, off + i * 2, none⟩ = some (.string (l.getD i noCl).1) ∧ W.cell? ⟨b, off + i * 2 + 1, none⟩ = some (.string (l.getD i noCl).2)
theorem ClsAt.below {w w' : World} {a : Option Addr} {l : List (ByteArray × ByteArray)} (h : ClsAt w a l) (hb : Below w.heap.size w w') : ClsAt w' a l := by
  rcases h with h | ⟨b, off, e, h⟩
  · exact .inl h
  · exact .inr ⟨b, off, e, fun i hi => ⟨keep_cell hb (h i hi).1, keep_cell hb (h i hi).2⟩⟩
theorem ClsAt.at {w : World} {a : Option Addr} {l : List (ByteArray × ByteArray)} (h : ClsAt w a l) {k : Nat} (hk : k < l.length) :
    ∃ b off, a = some ⟨b, off, none⟩ ∧ w.cell? ⟨b, off + k * 2, none⟩ = some (.string (l.getD k noCl).1) ∧ w.cell? ⟨b, off + k * 2 + 1, none⟩ = some (.string (l.getD k noCl).2) := by
  rcases h with h | ⟨b, off, e, h⟩
  · subst h; simp at hk
  · exact ⟨b, off, e, h k hk⟩
theorem below_drewN {w W : World} {B : Nat} (h : Below B w W) (n : Nat) : Below B w (W.drewN n) := ⟨h.os, h.tape, h.output, h.size, h.block⟩
theorem ret_bool {a b : Bool} (h : a = b) : Ending.returned (.bool a) = .returned (.bool b) := by rw [h]
theorem ba_beqL (a b : ByteArray) : (a.toList == b.toList) = decide (a = b) := by
  rw [Bool.eq_iff_iff, beq_iff_eq, decide_eq_true_iff, ByteArray.toList_eq, ByteArray.toList_eq]
  constructor
  · intro h
    cases a with | mk a => cases b with | mk b =>
    have : a = b := Array.toList_inj.1 h
    rw [this]
  · intro h; rw [h]
theorem ba_neL {a b : ByteArray} (h : a ≠ b) : (a.toList == b.toList) = false := by rw [ba_beqL]; exact decide_eq_false h
theorem ba_neL' {a b : ByteArray} (h : a ≠ b) : ¬ a.toList = b.toList := by
  have := ba_neL h
  rwa [beq_eq_false_iff_ne] at this
theorem has_any (s : ByteArray) (w : World) : Calls Tryd.prog 25 #[.string s] w fun e w' => e = .returned (.agg #[.bool true, .string s]) ∧ Below w.heap.size w w' := by
  go_enter Tryd.func25, Tryd.ntmps25
  go_wp2
  exact bodyPost_ret (v := .agg #[.bool true, .string s]) (by simp [results, Tryd.results25, go_sem]) rfl ⟨rfl, (Below.refl _ _).alloc (Nat.le_refl _) _⟩
/-- Two lists differ at a place. -/
theorem ne_at {l r : List (ByteArray × ByteArray)} {k : Nat} (h : (l.getD k noCl).1 ≠ (r.getD k noCl).1 ∨ (l.getD k noCl).2 ≠ (r.getD k noCl).2) : l ≠ r := by
  intro e; subst e; rcases h with h | h <;> exact h rfl
theorem eq_all {l r : List (ByteArray × ByteArray)} (hl : l.length = r.length) (h : ∀ m, m < l.length → l.getD m noCl = r.getD m noCl) : l = r := by
  apply List.ext_getElem hl
  intro i h1 h2
  have := h i h1
  simp only [List.getD_eq_getElem?_getD, List.getElem?_eq_getElem h1, List.getElem?_eq_getElem h2, Option.getD_some] at this
  exact this
set_option maxHeartbeats 2000000 in
theorem equal_any (a : Option Addr) (l : List (ByteArray × ByteArray)) (c : Nat) (a2 : Option Addr) (r : List (ByteArray × ByteArray)) (c2 : Nat) (w : World) (hr : r.length ≤ 1000000) (ha : ClsAt w a l) (ha2 : ClsAt w a2 r) :
    Calls Tryd.prog 27 #[.slice a l.length c, .slice a2 r.length c2] w fun e w' => e = .returned (.bool (decide (l = r))) ∧ Below w.heap.size w w' := by
  have HA := Lib.hid ha; clear ha
  have HA2 := Lib.hid ha2; clear ha2
  by_cases hlen : l.length = r.length
  · have HE := Lib.hid hlen
    have h1 : (l.length : Int) = (r.length : Int) := by omega
    rw [hlen]
    clear hlen h1
    go_enter Tryd.func27, Tryd.ntmps27
    go_wp2
    go_loopw [13] (fun i wr => ∃ k : Nat, k ≤ r.length ∧ i = .int .i64 k ∧ Hid (∀ m, m < k → l.getD m noCl = r.getD m noCl) ∧ Hid (Below w.heap.size w wr)) (fun i _ => r.length - (intOf i).toNat)
    case atStart => exact ⟨0, Nat.zero_le _, rfl, fun m hm => by omega, Below.refl _ _⟩
    case round =>
      obtain ⟨k, hk, rfl, hso, hb⟩ := hrel
      rename World => wa
      by_cases hlt : k < r.length
      · have hk0 : (0 : Int) ≤ (k : Int) := by omega
        have hk1 : (k : Int) < (r.length : Int) := by omega
        obtain ⟨b, off, rfl, c1, c3⟩ := (HA.out.below hb.out).at (k := k) (by rw [HE.out]; exact hlt)
        obtain ⟨b2, off2, rfl, c4, c5⟩ := (HA2.out.below hb.out).at hlt
        have HB2 : Hid (Below w.heap.size w wa) := hb.out
        by_cases e1 : (l.getD k noCl).1 = (r.getD k noCl).1
        · by_cases e2 : (l.getD k noCl).2 = (r.getD k noCl).2
          · have HS : Hid (∀ m, m < k + 1 → l.getD m noCl = r.getD m noCl) := fun m hm => by
              rcases Nat.lt_or_ge m k with h | h
              · exact hso.out m h
              · have : m = k := by omega
                rw [this]; exact Prod.ext e1 e2
            rw [e1] at c1
            rw [e2] at c3
            clear e1 e2 hso hb
            generalize (r.getD k noCl).1 = s1 at *
            generalize (r.getD k noCl).2 = s2 at *
            go_wp2
            go_quiet (fail)
            go_wp2
            go_roundw
            case rel => exact ⟨k + 1, by omega, by go_num, HS, below_drewN HB2.out _⟩
            case measure => simp [intOf]; omega
          · have HN := Lib.hid (decide_eq_false (ne_at (.inr e2)))
            rw [e1] at c1
            have f1 := ba_neL e2
            have f2 := ba_neL' e2
            clear e1 e2 hso hb
            generalize (r.getD k noCl).1 = s1 at *
            generalize (r.getD k noCl).2 = s2 at *
            generalize (l.getD k noCl).2 = s3 at *
            go_wp2
            go_quiet (fail)
            go_wp2
            go_ret
            exact ⟨ret_bool HN.out.symm, below_drewN HB2.out _⟩
        · have HN := Lib.hid (decide_eq_false (ne_at (.inl e1)))
          have f1 := ba_neL e1
          have f2 := ba_neL' e1
          clear e1 hso hb
          generalize (r.getD k noCl).1 = s1 at *
          generalize (l.getD k noCl).1 = s4 at *
          generalize (r.getD k noCl).2 = s2 at *
          generalize (l.getD k noCl).2 = s3 at *
          go_wp2
          go_quiet (fail)
          go_wp2
          go_ret
          exact ⟨ret_bool HN.out.symm, below_drewN HB2.out _⟩
      · have HY : Hid (decide (l = r) = true) := decide_eq_true (eq_all HE.out (fun m hm => hso.out m (by have := HE.out; omega)))
        have hk1 : (r.length : Int) ≤ (k : Int) := by omega
        clear hso
        go_wp2
        go_ret
        exact ⟨ret_bool HY.out.symm, hb.out⟩
  · have HN : Hid (decide (l = r) = false) := decide_eq_false (fun e => hlen (by rw [e]))
    have h1 : ¬ (l.length : Int) = (r.length : Int) := by omega
    go_enter Tryd.func27, Tryd.ntmps27
    go_wp2
    go_ret
    exact ⟨ret_bool HN.out.symm, Below.refl _ _⟩
/-- A page by value. -/
def pgV (no gsn : Int) (a : Option Addr) (n cap : Nat) : Value := .agg #[.int .i64 no, .int .i64 gsn, .slice a n cap]
def pgSame (n1 g1 : Int) (l : List (ByteArray × ByteArray)) (n2 g2 : Int) (r : List (ByteArray × ByteArray)) : Bool := decide (n1 = n2) && decide (g1 = g2) && decide (l = r)
theorem same_any (n1 g1 : Int) (a : Option Addr) (l : List (ByteArray × ByteArray)) (c : Nat) (n2 g2 : Int) (a2 : Option Addr) (r : List (ByteArray × ByteArray)) (c2 : Nat) (w : World) (hr : r.length ≤ 1000000) (ha : ClsAt w a l) (ha2 : ClsAt w a2 r) :
    Calls Tryd.prog 11 #[.agg #[.int .i64 n1, .int .i64 g1, .slice a l.length c], .agg #[.int .i64 n2, .int .i64 g2, .slice a2 r.length c2]] w fun e w' => e = .returned (.bool (pgSame n1 g1 l n2 g2 r)) ∧ Below w.heap.size w w' := by
  have KE := Lib.hid (fun W (hb : Below w.heap.size w W) => equal_any a l c a2 r c2 W hr (ha.below hb) (ha2.below hb))
  have HP : Hid (pgSame n1 g1 l n2 g2 r = (decide (n1 = n2) && decide (g1 = g2) && decide (l = r))) := rfl
  clear ha ha2
  have hb2 : Below w.heap.size w ((w.alloc (.cells #[.int .i64 n1, .int .i64 g1, .slice a l.length c] 24)).alloc (.cells #[.int .i64 n2, .int .i64 g2, .slice a2 r.length c2] 24)) := ((Below.refl _ _).alloc (Nat.le_refl _) _).alloc (by rw [World.size_alloc]; omega) _
  by_cases e1 : n1 = n2
  · subst e1
    by_cases e2 : g1 = g2
    · subst e2
      have HX : Hid (pgSame n1 g1 l n1 g1 r = decide (l = r)) := by rw [Hid, HP.out, decide_eq_true rfl, decide_eq_true rfl]; rfl
      have KE1 := Lib.hid (KE.out _ hb2)
      have HB2 := Lib.hid hb2
      clear HP KE hb2
      generalize decide (l = r) = q at *
      go_enter Tryd.func11, Tryd.ntmps11
      go_wp2_with fail
      refine KE1.out.mono ?_
      rintro e w5 ⟨rfl, hb⟩
      have hbf := HB2.out.trans (hb.mono HB2.out.size)
      clear KE1 HB2 hb
      go_wp2
      go_ret
      exact ⟨ret_bool HX.out.symm, hbf⟩
    · have HX : Hid (pgSame n1 g1 l n1 g2 r = false) := by rw [Hid, HP.out, decide_eq_false e2, Bool.and_false, Bool.false_and]
      have e2 : (g1 == g2) = false := by rw [beq_eq_false_iff_ne]; exact e2
      clear HP KE
      go_enter Tryd.func11, Tryd.ntmps11
      go_wp2
      go_ret
      exact ⟨ret_bool HX.out.symm, hb2⟩
  · have HX : Hid (pgSame n1 g1 l n2 g2 r = false) := by rw [Hid, HP.out, decide_eq_false e1, Bool.false_and, Bool.false_and]
    have e1 : (n1 == n2) = false := by rw [beq_eq_false_iff_ne]; exact e1
    clear HP KE
    go_enter Tryd.func11, Tryd.ntmps11
    go_wp2
    go_ret
    exact ⟨ret_bool HX.out.symm, hb2⟩
set_option maxHeartbeats 2000000 in
theorem refSame_any (n1 g1 : Int) (a : Option Addr) (l : List (ByteArray × ByteArray)) (c : Nat) (n2 g2 : Int) (a2 : Option Addr) (r : List (ByteArray × ByteArray)) (c2 : Nat) (w : World) (hr : r.length ≤ 1000000) (ha : ClsAt w a l) (ha2 : ClsAt w a2 r) :
    Calls Tryd.prog 12 #[.agg #[.int .i64 n1, .int .i64 g1, .slice a l.length c], .agg #[.int .i64 n2, .int .i64 g2, .slice a2 r.length c2]] w fun e w' => e = .returned (.bool (pgSame n1 g1 l n2 g2 r)) ∧ Below w.heap.size w w' := by
  have HP : Hid (pgSame n1 g1 l n2 g2 r = (decide (n1 = n2) && decide (g1 = g2) && decide (l = r))) := rfl
  have hb2 : Below w.heap.size w ((w.alloc (.cells #[.int .i64 n1, .int .i64 g1, .slice a l.length c] 24)).alloc (.cells #[.int .i64 n2, .int .i64 g2, .slice a2 r.length c2] 24)) := ((Below.refl _ _).alloc (Nat.le_refl _) _).alloc (by rw [World.size_alloc]; omega) _
  by_cases e1 : n1 = n2
  · subst e1
    by_cases e2 : g1 = g2
    · subst e2
      have HX : Hid (pgSame n1 g1 l n1 g1 r = decide (l = r)) := by rw [Hid, HP.out, decide_eq_true rfl, decide_eq_true rfl]; rfl
      clear HP
      by_cases hlen : l.length = r.length
      · have HA := Lib.hid (ha.below hb2)
        have HA2 := Lib.hid (ha2.below hb2)
        have HE := Lib.hid hlen
        have HB2 := Lib.hid hb2
        rw [hlen]
        rw [hlen] at HB2 HA HA2
        clear hlen ha ha2 hb2
        go_enter Tryd.func12, Tryd.ntmps12
        go_wp2
        go_loopw [5] (fun i wr => ∃ k : Nat, k ≤ r.length ∧ i = .int .i64 k ∧ Hid (∀ m, m < k → l.getD m noCl = r.getD m noCl) ∧ ∃ nd, wr = ((w.alloc (.cells #[.int .i64 n1, .int .i64 g1, .slice a r.length c] 24)).alloc (.cells #[.int .i64 n1, .int .i64 g1, .slice a2 r.length c2] 24)).drewN nd) (fun i _ => r.length - (intOf i).toNat)
        case atStart => exact ⟨0, Nat.zero_le _, rfl, fun m hm => by omega, 0, rfl⟩
        case round =>
          obtain ⟨k, hk, rfl, hso, nd, rfl⟩ := hrel
          by_cases hlt : k < r.length
          · have hk0 : (0 : Int) ≤ (k : Int) := by omega
            have hk1 : (k : Int) < (r.length : Int) := by omega
            obtain ⟨b, off, rfl, c1, c3⟩ := HA.out.at (k := k) (by rw [HE.out]; exact hlt)
            obtain ⟨b2, off2, rfl, c4, c5⟩ := HA2.out.at hlt
            by_cases e1 : (l.getD k noCl).1 = (r.getD k noCl).1
            · by_cases e2 : (l.getD k noCl).2 = (r.getD k noCl).2
              · have HS : Hid (∀ m, m < k + 1 → l.getD m noCl = r.getD m noCl) := fun m hm => by
                  rcases Nat.lt_or_ge m k with h | h
                  · exact hso.out m h
                  · have : m = k := by omega
                    rw [this]; exact Prod.ext e1 e2
                rw [e1] at c1
                rw [e2] at c3
                clear e1 e2 hso
                generalize (r.getD k noCl).1 = s1 at *
                generalize (r.getD k noCl).2 = s2 at *
                go_wp2
                go_quiet (fail)
                go_wp2
                go_roundw
                case rel => exact ⟨k + 1, by omega, by go_num, HS, nd + nq, rfl⟩
                case measure => simp [intOf]; omega
              · have HN := Lib.hid (decide_eq_false (ne_at (.inr e2)))
                rw [e1] at c1
                have f1 := ba_neL e2
                have f2 := ba_neL' e2
                clear e1 e2 hso
                generalize (r.getD k noCl).1 = s1 at *
                generalize (r.getD k noCl).2 = s2 at *
                generalize (l.getD k noCl).2 = s3 at *
                go_wp2
                go_quiet (fail)
                go_wp2
                go_ret
                exact ⟨ret_bool (HX.out.trans HN.out).symm, below_drewN (below_drewN HB2.out _) _⟩
            · have HN := Lib.hid (decide_eq_false (ne_at (.inl e1)))
              have f1 := ba_neL e1
              have f2 := ba_neL' e1
              clear e1 hso
              generalize (r.getD k noCl).1 = s1 at *
              generalize (l.getD k noCl).1 = s4 at *
              generalize (r.getD k noCl).2 = s2 at *
              generalize (l.getD k noCl).2 = s3 at *
              go_wp2
              go_quiet (fail)
              go_wp2
              go_ret
              exact ⟨ret_bool (HX.out.trans HN.out).symm, below_drewN (below_drewN HB2.out _) _⟩
          · have HY : Hid (decide (l = r) = true) := decide_eq_true (eq_all HE.out (fun m hm => hso.out m (by have := HE.out; omega)))
            have hk1 : (r.length : Int) ≤ (k : Int) := by omega
            clear hso
            go_wp2
            go_ret
            exact ⟨ret_bool (HX.out.trans HY.out).symm, below_drewN HB2.out _⟩
      · have HN : Hid (decide (l = r) = false) := decide_eq_false (fun e => hlen (by rw [e]))
        have h1 : ¬ (l.length : Int) = (r.length : Int) := by omega
        clear ha ha2
        go_enter Tryd.func12, Tryd.ntmps12
        go_wp2
        go_ret
        exact ⟨ret_bool (HX.out.trans HN.out).symm, hb2⟩
    · have HX : Hid (pgSame n1 g1 l n1 g2 r = false) := by rw [Hid, HP.out, decide_eq_false e2, Bool.and_false, Bool.false_and]
      have e2 : (g1 == g2) = false := by rw [beq_eq_false_iff_ne]; exact e2
      clear HP ha ha2
      go_enter Tryd.func12, Tryd.ntmps12
      go_wp2
      go_ret
      exact ⟨ret_bool HX.out.symm, hb2⟩
  · have HX : Hid (pgSame n1 g1 l n2 g2 r = false) := by rw [Hid, HP.out, decide_eq_false e1, Bool.false_and, Bool.false_and]
    have e1 : (n1 == n2) = false := by rw [beq_eq_false_iff_ne]; exact e1
    clear HP ha ha2
    go_enter Tryd.func12, Tryd.ntmps12
    go_wp2
    go_ret
    exact ⟨ret_bool HX.out.symm, hb2⟩
end Go.Proofs.YtgkpbchpjgkblaaDoor
