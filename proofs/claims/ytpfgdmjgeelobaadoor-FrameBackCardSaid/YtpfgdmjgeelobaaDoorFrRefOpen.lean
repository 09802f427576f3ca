/-
  THE CONTRACT OF quadrigaref03.Open: the document's answer is what frame.Open answers.
-/
import Derived.Test.YtpfgdmjgeelobaaDoorFrRefOpenA
import Derived.Test.YtpfgdmjgeelobaaDoorFrRefOpenB
import Derived.Test.YtpfgdmjgeelobaaDoorFrRefOpenC
namespace Go.Proofs.YtpfgdmjgeelobaaDoor
open Go.RowKit Crc

set_option maxHeartbeats 4000000 in
theorem refOpen_fr (s : ByteArray) (w : World) (hs : s.size ≤ 100000) :
    Calls Tryd.prog 14 #[.string s] w fun x w' => x = .returned (refOpenVal s) ∧ Below w.heap.size w w' := by
  by_cases h25 : 25 ≤ s.size
  · have h0 : 0 < s.size := by omega
    have hnh := frN_head s h0
    have hlt := s[0].toNat_lt
    by_cases h2 : 25 + s[0].toNat ≤ s.size
    · have h2' : (25 : Int) + (s[0].toNat : Int) ≤ (s.size : Int) := by omega
      have h21 : (21 : Int) + (s[0].toNat : Int) ≤ (s.size : Int) := by omega
      have h20 : (21 : Int) ≤ (21 : Int) + (s[0].toNat : Int) := by omega
      have hE : Hid (∀ W, Calls Tryd.prog 31 #[.string (s.extract 1 s.size), .int .i64 4] W fun e w' => e = .returned (.tuple #[.int .i64 (frE s), .bool true]) ∧ W = w') := fun W => by
        have := refTake_any (s.extract 1 s.size) ((4 : Nat) : Int) W (by omega) (by rw [ByteArray.size_extract]; omega)
        rw [refTake_at s 1 4 (by omega) (by omega) (by omega) (by have := frE_lt s; unfold frE at this; omega)] at this
        exact this
      obtain ⟨a, b, HA, hb1, hb0, ha9⟩ := refTake_or s 5 (by omega) hs
      obtain ⟨g, c, HG, hc1, hc0, hg9⟩ := refTake_or s 13 (by omega) hs
      change b = true → a = frA s at hb1
      change b = false → 9223372036854775807 < frA s at hb0
      change c = true → g = frG s at hc1
      change c = false → 9223372036854775807 < frG s at hc0
      have HA := Lib.hid HA
      have HG := Lib.hid HG
      cases b
      · have hok : frOk s = false := by unfold frOk frRight; have := hb0 rfl; simp; omega
        rw [refOpenVal_no hok]
        clear hok hb1 hb0 hc1 hc0 hnh ha9 hg9
        go_enter Tryd.func14, Tryd.ntmps14
        go_wp2_with fail
        refine (hE.out _).mono ?_
        rintro x w1 ⟨rfl, rfl⟩
        go_wp2_with fail
        refine (HA.out _).mono ?_
        rintro x w1 ⟨rfl, rfl⟩
        go_wp2_with fail
        refine (HG.out _).mono ?_
        rintro x w1 ⟨rfl, rfl⟩
        go_wp2_with fail
        go_quiet (fail)
        go_wp2
        refine bodyPost_ret (v := .tuple #[.agg #[.int .i64 0, .int .i64 0, .int .i64 0, .string ⟨#[]⟩], .bool false]) (by simp [results, Tryd.results14, go_sem]) rfl ⟨rfl, by (repeat (first | with_reducible exact Below.refl _ _ | with_reducible refine bw_set ?_ (Nat.le_refl _) | with_reducible refine bw_drewN ?_ | with_reducible refine bw_alloc ?_ | with_reducible refine bw_drew ?_))⟩
      · cases c
        · have hok : frOk s = false := by unfold frOk frRight; have := hc0 rfl; simp; omega
          rw [refOpenVal_no hok]
          clear hok hb1 hb0 hc1 hc0 hnh ha9 hg9
          go_enter Tryd.func14, Tryd.ntmps14
          go_wp2_with fail
          refine (hE.out _).mono ?_
          rintro x w1 ⟨rfl, rfl⟩
          go_wp2_with fail
          refine (HA.out _).mono ?_
          rintro x w1 ⟨rfl, rfl⟩
          go_wp2_with fail
          refine (HG.out _).mono ?_
          rintro x w1 ⟨rfl, rfl⟩
          go_wp2_with fail
          go_quiet (fail)
          go_wp2
          refine bodyPost_ret (v := .tuple #[.agg #[.int .i64 0, .int .i64 0, .int .i64 0, .string ⟨#[]⟩], .bool false]) (by simp [results, Tryd.results14, go_sem]) rfl ⟨rfl, by (repeat (first | with_reducible exact Below.refl _ _ | with_reducible refine bw_set ?_ (Nat.le_refl _) | with_reducible refine bw_drewN ?_ | with_reducible refine bw_alloc ?_ | with_reducible refine bw_drew ?_))⟩
        · obtain rfl := hb1 rfl
          obtain rfl := hc1 rfl
          have hdz : (frD s).size = s[0].toNat := by rw [frD_size s (by omega)]; exact hnh
          have HR := Lib.hid (fun W => refRight_any (frE s) (frA s) (frG s) (frD s) W (by omega))
          have HM := Lib.hid (fun W => refMake_any (frE s) (frA s) (frG s) (frD s) W (WalkArith.wf_i64 (by have := frE_lt s; omega)) (WalkArith.wf_i64 (by omega)) (WalkArith.wf_i64 (by omega)) (by omega))
          have hmk := make_read s (by omega)
          have hDe : s.extract 21 (21 + s[0].toNat) = frD s := by unfold frD; rw [hnh]
          have hok : frOk s = (isSealed (s.extract 0 (25 + s[0].toNat)) && frRight (frE s) (frA s) (frG s) (frD s).size) := by
            unfold frOk; rw [decide_eq_true (show 25 ≤ s.size from h25), decide_eq_true (show 25 + frN s ≤ s.size by omega), Bool.true_and, Bool.true_and, hdz, hnh]
          rw [hnh] at hmk
          clear hb1 hb0 hc1 hc0
          have hval : refOpenVal s = if frOk s then .tuple #[.agg #[.int .i64 (frE s), .int .i64 (frA s), .int .i64 (frG s), .string (frD s)], .bool true] else .tuple #[.agg #[.int .i64 0, .int .i64 0, .int .i64 0, .string ⟨#[]⟩], .bool false] := rfl
          rw [hval, hok]
          clear hval hok
          cases hr : frRight (frE s) (frA s) (frG s) (frD s).size
          · rw [hr] at HR
            rw [Bool.and_false, if_neg (by decide)]
            exact refOpen_a s (frD s) (frE s) (frA s) (frG s) w hs h0 h25 hlt h2 hdz hDe hE HA HG HR
          · rw [hr] at HR
            rw [Bool.and_true]
            cases hse : isSealed (s.extract 0 (25 + s[0].toNat))
            · rw [hse] at hmk
              rw [if_neg (by decide)]
              exact refOpen_b s (frD s) (frE s) (frA s) (frG s) w hs h0 h25 hlt h2 hdz hDe hE HA HG HR _ HM (by rw [hdz]; exact hmk)
            · rw [hse] at hmk
              rw [if_pos rfl]
              exact refOpen_c s (frD s) (frE s) (frA s) (frG s) w hs h0 h25 hlt h2 hdz hDe hE HA HG HR _ HM (by rw [hdz]; exact hmk)
    · have hok : frOk s = false := by unfold frOk; rw [hnh]; simp [show ¬ 25 + s[0].toNat ≤ s.size from h2]
      rw [refOpenVal_no hok]
      have h25' : ¬ (s.size : Int) < 25 := by omega
      have h2' : (s.size : Int) < (25 : Int) + (s[0].toNat : Int) := by omega
      clear hok hnh
      go_enter Tryd.func14, Tryd.ntmps14
      go_wp2
      refine bodyPost_ret (v := .tuple #[.agg #[.int .i64 0, .int .i64 0, .int .i64 0, .string ⟨#[]⟩], .bool false]) (by simp [results, Tryd.results14, go_sem]) rfl ⟨rfl, (Below.refl _ _).alloc (Nat.le_refl _) _⟩
  · have hok : frOk s = false := by unfold frOk; simp [show ¬ 25 ≤ s.size from h25]
    rw [refOpenVal_no hok]
    have h25' : (s.size : Int) < 25 := by omega
    clear hok
    go_enter Tryd.func14, Tryd.ntmps14
    go_wp2
    refine bodyPost_ret (v := .tuple #[.agg #[.int .i64 0, .int .i64 0, .int .i64 0, .string ⟨#[]⟩], .bool false]) (by simp [results, Tryd.results14, go_sem]) rfl ⟨rfl, (Below.refl _ _).alloc (Nat.le_refl _) _⟩
end Go.Proofs.YtpfgdmjgeelobaaDoor
