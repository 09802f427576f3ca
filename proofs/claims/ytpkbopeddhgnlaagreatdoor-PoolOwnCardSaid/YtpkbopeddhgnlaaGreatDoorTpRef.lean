/-
  THE CONTRACT OF the reference's Right.
-/
import Derived.Test.YtpkbopeddhgnlaaGreatDoorTpRight
namespace Go.Proofs.YtpkbopeddhgnlaaGreatDoor
open Go.RowKit
theorem ClsAt.drewN {w : World} {a : Option Addr} {l : List (ByteArray × ByteArray)} (h : ClsAt w a l) (n : Nat) : ClsAt (w.drewN n) a l := h
theorem refKey_any (s : ByteArray) (w : World) : Calls Tryz.prog 24 #[.string s] w fun e w' => e = .returned (.bool (kyOk s)) ∧ w = w' := by
  have HK : Hid (kyOk s = (decide ((1 : Int) ≤ (s.size : Int)) && decide ((s.size : Int) ≤ 8))) := rfl
  by_cases h1 : (1 : Int) ≤ (s.size : Int)
  · by_cases h8 : (s.size : Int) ≤ 8
    · have HX : Hid (kyOk s = true) := by rw [Hid, HK.out, decide_eq_true h1, decide_eq_true h8]; rfl
      go_enter Tryz.func24, Tryz.ntmps24
      go_wp2
      go_ret
      exact ⟨ret_bool HX.out.symm, rfl⟩
    · have HX : Hid (kyOk s = false) := by rw [Hid, HK.out, decide_eq_false h8, Bool.and_false]
      have h8 : (8 : Int) < (s.size : Int) := by omega
      go_enter Tryz.func24, Tryz.ntmps24
      go_wp2
      go_ret
      exact ⟨ret_bool HX.out.symm, rfl⟩
  · have HX : Hid (kyOk s = false) := by rw [Hid, HK.out, decide_eq_false h1, Bool.false_and]
    have h1 : (s.size : Int) < 1 := by omega
    go_enter Tryz.func24, Tryz.ntmps24
    go_wp2
    go_ret
    exact ⟨ret_bool HX.out.symm, rfl⟩
set_option maxRecDepth 100000 in
set_option maxHeartbeats 2000000 in
theorem refRight_any (no gsn : Int) (a : Option Addr) (l : List (ByteArray × ByteArray)) (c : Nat) (w : World) (hn : l.length ≤ maxLen) (ha : ClsAt w a l) :
    Calls Tryz.prog 23 #[.agg #[.int .i64 no, .int .i64 gsn, .slice a l.length c]] w fun e w' => e = .returned (.bool (pgOk no gsn l)) ∧ Below w.heap.size w w' := by
  have hb0 : Below w.heap.size w (w.alloc (.cells #[.int .i64 no, .int .i64 gsn, .slice a l.length c] 26)) := (Below.refl _ _).alloc (Nat.le_refl _) _
  have HG : Hid (pgOk no gsn l = (decide (0 ≤ no) && decide (no < 64) && decide (0 ≤ gsn) && decide (gsn ≤ 4611686018427387903) && decide (l.length ≤ 8) && cellsB l)) := rfl
  unfold maxLen at hn
  have HA := Lib.hid (ha.below hb0)
  clear ha
  have fin : ∀ (hx : Hid (pgOk no gsn l = false)), Ending.returned (.bool false) = Ending.returned (.bool (pgOk no gsn l)) := fun hx => ret_bool hx.out.symm
  have FIN := Lib.hid fin; clear fin
  by_cases h1 : 0 ≤ no
  · by_cases h2 : no < 64
    · by_cases h3 : 0 ≤ gsn
      · by_cases h4 : gsn ≤ 4611686018427387903
        · by_cases h5 : l.length ≤ 8
          · have HX : Hid (pgOk no gsn l = cellsB l) := by rw [Hid, HG.out, decide_eq_true h1, decide_eq_true h2, decide_eq_true h3, decide_eq_true h4, decide_eq_true h5]; rfl
            have h5 : (l.length : Int) ≤ 8 := by omega
            have p2 := Lib.hid (new_cell (W := w) (cs := #[.int .i64 no, .int .i64 gsn, .slice a l.length c]) (T := 26) (g := w.heap.size) (i := 2) (v := .slice a l.length c) rfl rfl)
            have HB0 := Lib.hid hb0
            have h2 : no ≤ 63 := by omega
            have h4 : gsn < 4611686018427387904 := by omega
            have KK := Lib.hid refKey_any
            clear HG hb0 FIN
            go_enter Tryz.func23, Tryz.ntmps23
            go_wp2
            generalize w.alloc (.cells #[.int .i64 no, .int .i64 gsn, .slice a l.length c] 26) = W2 at *
            go_loopw [3] (fun i wr => ∃ k : Nat, k ≤ l.length ∧ i = .int .i64 k ∧ Hid (∀ m, m < k → cellB l m = true) ∧ Hid (ClsAt wr a l) ∧ Hid (wr.cell? ⟨w.heap.size, 2, none⟩ = some (.slice a l.length c)) ∧ Hid (Below w.heap.size w wr)) (fun i _ => l.length - (intOf i).toNat)
            case atStart => exact ⟨0, Nat.zero_le _, rfl, fun m hm => by omega, HA, p2, HB0⟩
            case round =>
              obtain ⟨k, hk, rfl, hso, HA1, P1, HB1⟩ := hrel
              rename World => wa
              have p3 := P1.out
              by_cases hlt : k < l.length
              · have hk0 : (0 : Int) ≤ (k : Int) := by omega
                have hk1 : (k : Int) < (l.length : Int) := by omega
                obtain ⟨b, off, rfl, c1, c2⟩ := HA1.out.at hlt
                have HC : Hid (cellB l k = (kyOk (l.getD k noCl).1 && decide ((l.getD k noCl).2.size ≤ 16) && (decide (k = 0) || upC (l.getD (k - 1) noCl).1 (l.getD k noCl).1))) := rfl
                have HNO : Hid (cellB l k = false → cellsB l = false) := fun h => cellsB_no hlt h
                have HYES : Hid (cellB l k = true → ∀ m, m < k + 1 → cellB l m = true) := fun h m hm => by
                  rcases Nat.lt_or_ge m k with h' | h'
                  · exact hso.out m h'
                  · have : m = k := by omega
                    rw [this]; exact h
                clear hso
                obtain ⟨s1, hs1⟩ : ∃ s, s = (l.getD k noCl).1 := ⟨_, rfl⟩
                obtain ⟨s2, hs2⟩ : ∃ s, s = (l.getD k noCl).2 := ⟨_, rfl⟩
                rw [← hs1] at c1 HC
                rw [← hs2] at c2 HC
                clear hs1 hs2
                cases hq : kyOk s1 with
                | false =>
                  have HN := Lib.hid (HX.out.trans (HNO.out (by rw [HC.out, hq]; rfl)))
                  have K1 := Lib.hid (fun W => KK.out s1 W)
                  rw [hq] at K1
                  clear HC HNO HYES HX KK hq
                  go_wp2_with fail
                  go_quiet ((go_at_call 24; exact Calls.quiet_of_same ((K1.out _).mono fun _ _ hh => ⟨hh.1, hh.2.symm⟩)))
                  go_wp2
                  go_ret
                  exact ⟨ret_bool HN.out.symm, below_drewN HB1.out _⟩
                | true =>
                  have K1 := Lib.hid (fun W => KK.out s1 W)
                  rw [hq] at K1
                  rw [hq, Bool.true_and] at HC
                  clear KK hq
                  by_cases h16 : s2.size ≤ 16
                  · rw [decide_eq_true h16, Bool.true_and] at HC
                    have h16' : (s2.size : Int) ≤ 16 := by omega
                    have h16b : decide ((16 : Int) < (s2.size : Int)) = false := decide_eq_false (by omega)
                    by_cases hk00 : k = 0
                    · have HS := Lib.hid (HYES.out (by rw [HC.out, decide_eq_true hk00]; rfl))
                      subst hk00
                      have c1z : wa.cell? ⟨b, off, none⟩ = some (.string s1) := by
                        have := c1
                        rw [Nat.zero_mul, Nat.add_zero] at this
                        exact this
                      have c2z : wa.cell? ⟨b, off + 1, none⟩ = some (.string s2) := by
                        have := c2
                        rw [Nat.zero_mul, Nat.add_zero] at this
                        exact this
                      have hgn : ¬ (0 : Nat) < 0 := by omega
                      clear HC HNO HYES c1 c2
                      go_wp2_with fail
                      go_quiet ((go_at_call 24; exact Calls.quiet_of_same ((K1.out _).mono fun _ _ hh => ⟨hh.1, hh.2.symm⟩)))
                      go_wp2
                      go_roundw
                      case rel => exact ⟨0 + 1, by omega, by go_num, HS, ClsAt.drewN HA1.out _, P1.out, below_drewN HB1.out _⟩
                      case measure => simp [intOf]; omega
                    · obtain ⟨j, hj⟩ : ∃ j, k = j + 1 := ⟨k - 1, by omega⟩
                      have hj1 : k - 1 = j := by omega
                      rw [decide_eq_false hk00, Bool.false_or, hj1] at HC
                      have hjl : j < l.length := by omega
                      obtain ⟨b', off', e', c1', c2'⟩ := HA1.out.at hjl
                      injection e' with e'
                      injection e' with e1' e2'
                      subst e1' e2'
                      have hw : IntKind.i64.wrap ((k : Int) - 1) = (j : Int) := by rw [IntWalk.i64_in _ (by omega)]; omega
                      have hgt : (0 : Int) < (k : Int) := by omega
                      have hgn : 0 < k := by omega
                      have hgb : decide (0 < k) = true := decide_eq_true hgn
                      have hj0 : (0 : Int) ≤ (j : Int) := by omega
                      have hj2 : (j : Int) < (l.length : Int) := by omega
                      have HU : Hid (upC (l.getD j noCl).1 s1 = Op.bytesLess (l.getD j noCl).1.toList s1.toList) := rfl
                      generalize (l.getD j noCl).1 = s3 at *
                      generalize (l.getD j noCl).2 = s4 at *
                      cases hu : Op.bytesLess s3.toList s1.toList with
                      | true =>
                        have HS := Lib.hid (HYES.out (by rw [HC.out, HU.out, hu]))
                        clear HC HNO HYES HU hj hj1
                        go_wp2_with fail
                        go_quiet ((go_at_call 24; exact Calls.quiet_of_same ((K1.out _).mono fun _ _ hh => ⟨hh.1, hh.2.symm⟩)))
                        go_wp2
                        go_roundw
                        case rel => exact ⟨k + 1, by omega, by go_num, HS, ClsAt.drewN HA1.out _, P1.out, below_drewN HB1.out _⟩
                        case measure => simp [intOf]; omega
                      | false =>
                        have HN := Lib.hid (HX.out.trans (HNO.out (by rw [HC.out, HU.out, hu])))
                        clear HC HNO HYES HU hj hj1 HX
                        go_wp2_with fail
                        go_quiet ((go_at_call 24; exact Calls.quiet_of_same ((K1.out _).mono fun _ _ hh => ⟨hh.1, hh.2.symm⟩)))
                        go_wp2
                        go_ret
                        exact ⟨ret_bool HN.out.symm, below_drewN HB1.out _⟩
                  · have HN := Lib.hid (HX.out.trans (HNO.out (by rw [HC.out, decide_eq_false h16]; rfl)))
                    have h16 : (16 : Int) < (s2.size : Int) := by omega
                    clear HC HNO HYES HX
                    go_wp2_with fail
                    go_quiet ((go_at_call 24; exact Calls.quiet_of_same ((K1.out _).mono fun _ _ hh => ⟨hh.1, hh.2.symm⟩)))
                    go_wp2
                    go_ret
                    exact ⟨ret_bool HN.out.symm, below_drewN HB1.out _⟩
              · have hk1 : (l.length : Int) ≤ (k : Int) := by omega
                have HY := Lib.hid (HX.out.trans (cellsB_yes (fun m hm => hso.out m (by omega))))
                clear hso HX
                go_wp2
                go_ret
                exact ⟨ret_bool HY.out.symm, HB1.out⟩
          · have HX : Hid (pgOk no gsn l = false) := by rw [Hid, HG.out, decide_eq_false h5, Bool.and_false, Bool.false_and]
            have h5 : (8 : Int) < (l.length : Int) := by omega
            have e := Lib.hid (FIN.out HX)
            clear HG HX FIN
            go_enter Tryz.func23, Tryz.ntmps23
            go_wp2
            go_ret
            exact ⟨e.out, hb0⟩
        · have HX : Hid (pgOk no gsn l = false) := by rw [Hid, HG.out, decide_eq_false h4, Bool.and_false, Bool.false_and, Bool.false_and]
          have h4 : 4611686018427387904 ≤ gsn := by omega
          have e := Lib.hid (FIN.out HX)
          clear HG HX FIN
          go_enter Tryz.func23, Tryz.ntmps23
          go_wp2
          go_ret
          exact ⟨e.out, hb0⟩
      · have HX : Hid (pgOk no gsn l = false) := by rw [Hid, HG.out, decide_eq_false h3, Bool.and_false, Bool.false_and, Bool.false_and, Bool.false_and]
        have h3 : gsn < 0 := by omega
        have e := Lib.hid (FIN.out HX)
        clear HG HX FIN
        go_enter Tryz.func23, Tryz.ntmps23
        go_wp2
        go_ret
        exact ⟨e.out, hb0⟩
    · have HX : Hid (pgOk no gsn l = false) := by rw [Hid, HG.out, decide_eq_false h2, Bool.and_false, Bool.false_and, Bool.false_and, Bool.false_and, Bool.false_and]
      have h2 : 63 < no := by omega
      have e := Lib.hid (FIN.out HX)
      clear HG HX FIN
      go_enter Tryz.func23, Tryz.ntmps23
      go_wp2
      go_ret
      exact ⟨e.out, hb0⟩
  · have HX : Hid (pgOk no gsn l = false) := by rw [Hid, HG.out, decide_eq_false h1, Bool.false_and, Bool.false_and, Bool.false_and, Bool.false_and, Bool.false_and]
    have h1 : no < 0 := by omega
    have e := Lib.hid (FIN.out HX)
    clear HG HX FIN
    go_enter Tryz.func23, Tryz.ntmps23
    go_wp2
    go_ret
    exact ⟨e.out, hb0⟩
end Go.Proofs.YtpkbopeddhgnlaaGreatDoor
