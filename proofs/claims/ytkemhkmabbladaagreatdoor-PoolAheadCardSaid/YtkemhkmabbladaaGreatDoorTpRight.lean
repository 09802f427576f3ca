/-
  THE CONTRACTS OF page.Right and of the reference's Right: they agree.
-/
import Derived.Test.YtkemhkmabbladaaGreatDoorTpA
import Derived.IntWalk
import Derived.Laws.Cover1
namespace Go.Proofs.YtkemhkmabbladaaGreatDoor
open Go.RowKit
theorem less_tri : ∀ a b : List UInt8, (Op.bytesLess a b || a == b) = !Op.bytesLess b a
  | [], [] => rfl
  | [], _ :: _ => rfl
  | _ :: _, [] => rfl
  | x :: a, y :: b => by
    have ih := less_tri a b
    show ((decide (x < y) || (x == y && Op.bytesLess a b)) || (x :: a) == (y :: b)) = !(decide (y < x) || (y == x && Op.bytesLess b a))
    rw [List.cons_beq_cons]
    by_cases h : x = y
    · subst h
      simp only [UInt8.lt_irrefl, decide_false, Bool.false_or, beq_self_eq_true, Bool.true_and]
      exact ih
    · have h1 : (x == y) = false := by rw [beq_eq_false_iff_ne]; exact h
      have h2 : (y == x) = false := by rw [beq_eq_false_iff_ne]; exact fun e => h e.symm
      rw [h1, h2]
      simp only [Bool.false_and, Bool.or_false]
      by_cases h3 : x < y
      · have h4 : ¬ y < x := fun h4 => UInt8.lt_irrefl _ (UInt8.lt_trans h3 h4)
        rw [decide_eq_true h3, decide_eq_false h4]; rfl
      · have h4 : y < x := by
          rw [UInt8.lt_iff_toNat_lt] at h3 ⊢
          have : x.toNat ≠ y.toNat := fun e => h (UInt8.toNat_inj.1 e)
          omega
        rw [decide_eq_false h3, decide_eq_true h4]; rfl
/-- The next key is greater. -/
def upC (p c : ByteArray) : Bool := Op.bytesLess p.toList c.toList
/-- A cell that may stand where it does. -/
def cellB (l : List (ByteArray × ByteArray)) (k : Nat) : Bool := kyOk (l.getD k noCl).1 && decide ((l.getD k noCl).2.size ≤ 16) && (decide (k = 0) || upC (l.getD (k - 1) noCl).1 (l.getD k noCl).1)
def cellsB (l : List (ByteArray × ByteArray)) : Bool := (List.range l.length).all (cellB l)
theorem cellsB_no {l : List (ByteArray × ByteArray)} {k : Nat} (hk : k < l.length) (h : cellB l k = false) : cellsB l = false := by
  unfold cellsB
  rw [List.all_eq_false]
  exact ⟨k, List.mem_range.2 hk, by rw [h]; decide⟩
theorem cellsB_yes {l : List (ByteArray × ByteArray)} (h : ∀ m, m < l.length → cellB l m = true) : cellsB l = true := by
  unfold cellsB
  rw [List.all_eq_true]
  exact fun k hk => h k (List.mem_range.1 hk)
/-- Is a page right? -/
def pgOk (no gsn : Int) (l : List (ByteArray × ByteArray)) : Bool := decide (0 ≤ no) && decide (no < 64) && decide (0 ≤ gsn) && decide (gsn ≤ 4611686018427387903) && decide (l.length ≤ 8) && cellsB l
theorem key_one (s : ByteArray) (W : World) : Calls Tryz.prog 74 #[.slice (some ⟨W.heap.size, 0, none⟩) 1 1] (W.alloc (.cells #[.string s] 9)) fun e w' => e = .returned (.bool (kyOk s)) ∧ Below (W.alloc (.cells #[.string s] 9)).heap.size (W.alloc (.cells #[.string s] 9)) w' := by
  refine (key_any (some ⟨W.heap.size, 0, none⟩) [s] 1 _ (by simp) (.inr ⟨W.heap.size, 0, rfl, fun i hi => ?_⟩)).mono ?_
  · match i, hi with
    | 0, _ => exact new_cell rfl rfl
  · rintro e w' ⟨rfl, hb⟩
    exact ⟨by simp, hb⟩
theorem val_one (h : Bool) (s : ByteArray) (W : World) : Calls Tryz.prog 75 #[.slice (some ⟨W.heap.size, 0, none⟩) 1 1] (W.alloc (.cells #[.bool h, .string s] 40)) fun e w' => e = .returned (.bool (vlOk h s)) ∧ Below (W.alloc (.cells #[.bool h, .string s] 40)).heap.size (W.alloc (.cells #[.bool h, .string s] 40)) w' := by
  refine (value_any (some ⟨W.heap.size, 0, none⟩) [(h, s)] 1 _ (by simp) (.inr ⟨W.heap.size, 0, rfl, ?_⟩)).mono ?_
  · intro i hi
    match i, hi with
    | 0, _ => exact ⟨new_cell rfl rfl, new_cell rfl rfl⟩
  · rintro e w' ⟨rfl, hb⟩
    exact ⟨by simp [vOk], hb⟩
theorem vl_true (s : ByteArray) : vlOk true s = decide (s.size ≤ 16) := by
  unfold vlOk
  simp; omega
set_option maxRecDepth 100000 in
set_option maxHeartbeats 4000000 in
theorem right_any (no gsn : Int) (a : Option Addr) (l : List (ByteArray × ByteArray)) (c : Nat) (w : World) (hn : l.length ≤ maxLen) (ha : ClsAt w a l) :
    Calls Tryz.prog 44 #[.agg #[.int .i64 no, .int .i64 gsn, .slice a l.length c]] w fun e w' => e = .returned (.bool (pgOk no gsn l)) ∧ Below w.heap.size w w' := by
  have hb0 : Below w.heap.size w (w.alloc (.cells #[.int .i64 no, .int .i64 gsn, .slice a l.length c] 36)) := (Below.refl _ _).alloc (Nat.le_refl _) _
  have HG : Hid (pgOk no gsn l = (decide (0 ≤ no) && decide (no < 64) && decide (0 ≤ gsn) && decide (gsn ≤ 4611686018427387903) && decide (l.length ≤ 8) && cellsB l)) := rfl
  unfold maxLen at hn
  have HA := Lib.hid (ha.below hb0)
  clear ha
  have fin : ∀ (hx : Hid (pgOk no gsn l = false)), Ending.returned (.bool false) = Ending.returned (.bool (pgOk no gsn l)) := fun hx => ret_bool hx.out.symm
  have FIN := Lib.hid fin; clear fin
  by_cases h1 : 0 ≤ no
  · by_cases h2 : no < 64
    · by_cases h3 : 0 ≤ gsn
      · by_cases h4 : gsn ≤ 4611686018427387903
        · by_cases h5 : l.length ≤ 8
          · have HX : Hid (pgOk no gsn l = cellsB l) := by rw [Hid, HG.out, decide_eq_true h1, decide_eq_true h2, decide_eq_true h3, decide_eq_true h4, decide_eq_true h5]; rfl
            have h5 : (l.length : Int) ≤ 8 := by omega
            have p2 := Lib.hid (new_cell (W := w) (cs := #[.int .i64 no, .int .i64 gsn, .slice a l.length c]) (T := 36) (g := w.heap.size) (i := 2) (v := .slice a l.length c) rfl rfl)
            have HB0 := Lib.hid hb0
            have KH := Lib.hid has_any
            have KK := Lib.hid key_one
            have KV := Lib.hid val_one
            clear HG hb0 FIN
            go_enter Tryz.func44, Tryz.ntmps44
            go_wp2
            generalize w.alloc (.cells #[.int .i64 no, .int .i64 gsn, .slice a l.length c] 36) = W2 at *
            go_loopw [32] (fun i wr => ∃ k : Nat, k ≤ l.length ∧ i = .int .i64 k ∧ Hid (∀ m, m < k → cellB l m = true) ∧ Hid (Below W2.heap.size W2 wr)) (fun i _ => l.length - (intOf i).toNat)
            case atStart => exact ⟨0, Nat.zero_le _, rfl, fun m hm => by omega, Below.refl _ _⟩
            case round =>
              obtain ⟨k, hk, rfl, hso, hb⟩ := hrel
              rename World => wa
              have hbw := Lib.hid (HB0.out.trans (hb.out.mono HB0.out.size))
              by_cases hlt : k < l.length
              · have hk0 : (0 : Int) ≤ (k : Int) := by omega
                have hk1 : (k : Int) < (l.length : Int) := by omega
                obtain ⟨b, off, rfl, c1, c2⟩ := (HA.out.below hb.out).at hlt
                have HC : Hid (cellB l k = (kyOk (l.getD k noCl).1 && decide ((l.getD k noCl).2.size ≤ 16) && (decide (k = 0) || upC (l.getD (k - 1) noCl).1 (l.getD k noCl).1))) := rfl
                have HNO : Hid (cellB l k = false → cellsB l = false) := fun h => cellsB_no hlt h
                have HYES : Hid (cellB l k = true → ∀ m, m < k + 1 → cellB l m = true) := fun h m hm => by
                  rcases Nat.lt_or_ge m k with h' | h'
                  · exact hso.out m h'
                  · have : m = k := by omega
                    rw [this]; exact h
                have KC : Hid (k ≠ 0 → ∃ j, k = j + 1) := fun h => ⟨k - 1, by omega⟩
                clear hso
                obtain ⟨s1, hs1⟩ : ∃ s, s = (l.getD k noCl).1 := ⟨_, rfl⟩
                obtain ⟨s2, hs2⟩ : ∃ s, s = (l.getD k noCl).2 := ⟨_, rfl⟩
                rw [← hs1] at c1 HC
                rw [← hs2] at c2 HC
                clear hs1 hs2
                have hba : Below wa.heap.size wa (wa.alloc (.cells #[.string s1, .string s2] 89)) := (Below.refl _ _).alloc (Nat.le_refl _) _
                have x0 := new_cell (W := wa) (cs := #[.string s1, .string s2]) (T := 89) (g := wa.heap.size) (i := 0) (v := .string s1) rfl rfl
                have x1 := new_cell (W := wa) (cs := #[.string s1, .string s2]) (T := 89) (g := wa.heap.size) (i := 1) (v := .string s2) rfl rfl
                have hba2 := hba.alloc (o := .cells #[.string s1] 9) hba.size
                have XB := Lib.hid hba2
                have X0 := Lib.hid (keep_alloc (o := .cells #[.string s1] 9) x0)
                have X1 := Lib.hid (keep_alloc (o := .cells #[.string s1] 9) x1)
                clear hba hba2
                cases hq : kyOk s1 with
                | false =>
                  have HN := Lib.hid (HX.out.trans (HNO.out (by rw [HC.out, hq]; rfl)))
                  have K1 := Lib.hid (KK.out s1 (wa.alloc (.cells #[.string s1, .string s2] 89)))
                  rw [hq, World.size_alloc wa (.cells #[.string s1, .string s2] 89)] at K1
                  clear HC HNO HYES HX KK KH KV hq
                  go_wp2_with fail
                  refine K1.out.mono ?_
                  rintro e w5 ⟨rfl, hb5⟩
                  go_wp2
                  go_ret
                  exact ⟨ret_bool HN.out.symm, hbw.out.trans ((XB.out.trans (hb5.mono XB.out.size)).mono hbw.out.size)⟩
                | true =>
                  have K1 := Lib.hid (KK.out s1 (wa.alloc (.cells #[.string s1, .string s2] 89)))
                  rw [hq, World.size_alloc wa (.cells #[.string s1, .string s2] 89)] at K1
                  rw [hq, Bool.true_and] at HC
                  clear KK hq
                  go_wp2_with fail
                  refine K1.out.mono ?_
                  rintro e w5 ⟨rfl, hb5⟩
                  have hbA := Lib.hid (XB.out.trans (hb5.mono XB.out.size))
                  have y0 := Lib.hid (keep_cell hb5 X0.out)
                  have y1 := keep_cell hb5 X1.out
                  clear hb5 K1 X0 X1 XB x0 x1
                  go_wp2_with fail
                  refine (KH.out _ _).mono ?_
                  rintro e w6 ⟨rfl, hb6⟩
                  have hbB := Lib.hid (hbA.out.trans (hb6.mono hbA.out.size))
                  have z0 := Lib.hid (keep_cell hb6 y0.out)
                  clear hb6 hbA y0 y1 KH
                  by_cases h16 : s2.size ≤ 16
                  · have K2 := Lib.hid (KV.out true s2 w6)
                    rw [vl_true, decide_eq_true h16] at K2
                    rw [decide_eq_true h16, Bool.true_and] at HC
                    clear KV h16
                    go_wp2_with fail
                    refine K2.out.mono ?_
                    rintro e w7 ⟨rfl, hb7⟩
                    have hbC := Lib.hid ((hbB.out.alloc hbB.out.size (.cells #[.bool true, .string s2] 40)).trans (hb7.mono (by rw [World.size_alloc]; have := hbB.out.size; omega)))
                    have v0 := keep_cell hb7 (keep_alloc (o := .cells #[.bool true, .string s2] 40) z0.out)
                    clear hb7 hbB z0 K2
                    by_cases hk00 : k = 0
                    · have HS := Lib.hid (HYES.out (by rw [HC.out, decide_eq_true hk00]; rfl))
                      have hbn : Hid (Below W2.heap.size W2 w7) := hb.out.trans (hbC.out.mono hb.out.size)
                      subst hk00
                      clear HC HNO HYES KC hbC hb hbw
                      go_wp2_with fail
                      go_quiet (fail)
                      go_wp2
                      go_roundw
                      case rel => exact ⟨0 + 1, by omega, by go_num, HS, below_drewN hbn.out _⟩
                      case measure => simp [intOf]; omega
                    · obtain ⟨j, hj⟩ := KC.out hk00
                      have hj1 : k - 1 = j := by omega
                      rw [decide_eq_false hk00, Bool.false_or, hj1] at HC
                      have hjl : j < l.length := by omega
                      obtain ⟨b', off', e', c1', c2'⟩ := ((HA.out.below hb.out).below hbC.out).at hjl
                      injection e' with e'
                      injection e' with e1' e2'
                      subst e1' e2'
                      have hw : IntKind.i64.wrap ((k : Int) - 1) = (j : Int) := by rw [IntWalk.i64_in _ (by omega)]; omega
                      have hgt : (0 : Int) < (k : Int) := by omega
                      have hgn : 0 < k := by omega
                      have hgb : decide (0 < k) = true := decide_eq_true hgn
                      have hj0 : (0 : Int) ≤ (j : Int) := by omega
                      have hj2 : (j : Int) < (l.length : Int) := by omega
                      have p3 := keep_cell hbC.out (keep_cell hb.out p2.out)
                      have htri := less_tri s1.toList (l.getD j noCl).1.toList
                      have HU : Hid (upC (l.getD j noCl).1 s1 = Op.bytesLess (l.getD j noCl).1.toList s1.toList) := rfl
                      have hbn : Hid (Below W2.heap.size W2 w7) := hb.out.trans (hbC.out.mono hb.out.size)
                      have hbf := Lib.hid (hbw.out.trans (hbC.out.mono hbw.out.size))
                      generalize (l.getD j noCl).1 = s3 at *
                      generalize (l.getD j noCl).2 = s4 at *
                      cases hu : Op.bytesLess s3.toList s1.toList with
                      | true =>
                        have HS := Lib.hid (HYES.out (by rw [HC.out, HU.out, hu]))
                        rw [hu] at htri
                        have ht : (Op.bytesLess s1.toList s3.toList || s1.toList == s3.toList) = false := htri
                        clear htri HC HNO HYES KC hbC hb hbw HU hj hj1 hu
                        go_wp2_with fail
                        go_quiet (fail)
                        go_wp2
                        go_roundw
                        case rel => exact ⟨k + 1, by omega, by go_num, HS, below_drewN hbn.out _⟩
                        case measure => simp [intOf]; omega
                      | false =>
                        have HN := Lib.hid (HX.out.trans (HNO.out (by rw [HC.out, HU.out, hu])))
                        rw [hu] at htri
                        have ht : (Op.bytesLess s1.toList s3.toList || s1.toList == s3.toList) = true := htri
                        clear htri HC HNO HYES KC hbC hb hbw HU hj hj1 hu HX
                        go_wp2_with fail
                        go_quiet (fail)
                        go_wp2
                        go_ret
                        exact ⟨ret_bool HN.out.symm, below_drewN hbf.out _⟩
                  · have K2 := Lib.hid (KV.out true s2 w6)
                    rw [vl_true, decide_eq_false h16] at K2
                    have HN := Lib.hid (HX.out.trans (HNO.out (by rw [HC.out, decide_eq_false h16]; rfl)))
                    clear HC HNO HYES HX KC KV h16
                    go_wp2_with fail
                    refine K2.out.mono ?_
                    rintro e w7 ⟨rfl, hb7⟩
                    have hbC := (hbB.out.alloc hbB.out.size (.cells #[.bool true, .string s2] 40)).trans (hb7.mono (by rw [World.size_alloc]; have := hbB.out.size; omega))
                    go_wp2
                    go_ret
                    exact ⟨ret_bool HN.out.symm, hbw.out.trans (hbC.mono hbw.out.size)⟩
              · have hk1 : (l.length : Int) ≤ (k : Int) := by omega
                have HY := Lib.hid (HX.out.trans (cellsB_yes (fun m hm => hso.out m (by omega))))
                clear hso HX
                go_wp2
                go_ret
                exact ⟨ret_bool HY.out.symm, hbw.out⟩
          · have HX : Hid (pgOk no gsn l = false) := by rw [Hid, HG.out, decide_eq_false h5, Bool.and_false, Bool.false_and]
            have h5 : (8 : Int) < (l.length : Int) := by omega
            have e := Lib.hid (FIN.out HX)
            clear HG HX FIN
            go_enter Tryz.func44, Tryz.ntmps44
            go_wp2
            go_ret
            exact ⟨e.out, hb0⟩
        · have HX : Hid (pgOk no gsn l = false) := by rw [Hid, HG.out, decide_eq_false h4, Bool.and_false, Bool.false_and, Bool.false_and]
          have h4 : 4611686018427387903 < gsn := by omega
          have e := Lib.hid (FIN.out HX)
          clear HG HX FIN
          go_enter Tryz.func44, Tryz.ntmps44
          go_wp2
          go_ret
          exact ⟨e.out, hb0⟩
      · have HX : Hid (pgOk no gsn l = false) := by rw [Hid, HG.out, decide_eq_false h3, Bool.and_false, Bool.false_and, Bool.false_and, Bool.false_and]
        have h3 : gsn < 0 := by omega
        have e := Lib.hid (FIN.out HX)
        clear HG HX FIN
        go_enter Tryz.func44, Tryz.ntmps44
        go_wp2
        go_ret
        exact ⟨e.out, hb0⟩
    · have HX : Hid (pgOk no gsn l = false) := by rw [Hid, HG.out, decide_eq_false h2, Bool.and_false, Bool.false_and, Bool.false_and, Bool.false_and, Bool.false_and]
      have h2 : 64 ≤ no := by omega
      have e := Lib.hid (FIN.out HX)
      clear HG HX FIN
      go_enter Tryz.func44, Tryz.ntmps44
      go_wp2
      go_ret
      exact ⟨e.out, hb0⟩
  · have HX : Hid (pgOk no gsn l = false) := by rw [Hid, HG.out, decide_eq_false h1, Bool.false_and, Bool.false_and, Bool.false_and, Bool.false_and, Bool.false_and]
    have h1 : no < 0 := by omega
    have e := Lib.hid (FIN.out HX)
    clear HG HX FIN
    go_enter Tryz.func44, Tryz.ntmps44
    go_wp2
    go_ret
    exact ⟨e.out, hb0⟩
end Go.Proofs.YtkemhkmabbladaaGreatDoor
