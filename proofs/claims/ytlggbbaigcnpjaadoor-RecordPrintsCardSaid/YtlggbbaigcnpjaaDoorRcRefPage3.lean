/-
  THE CONTRACT OF quadrigaref04.Right of a record that changes a page.
-/
import Derived.Test.YtlggbbaigcnpjaaDoorRcRefOut
namespace Go.Proofs.YtlggbbaigcnpjaaDoor
open Go.RowKit

set_option maxHeartbeats 4000000 in
theorem refRight_3 (g t p pg u : Int) (key sb sa : ByteArray) (hb ha : Bool) (w : World) (h1 : 1 ≤ t) (h2 : t ≤ 2147483647) (h3 : 1 ≤ g) (h4 : g ≤ 4611686018427387903) (h5 : 1 ≤ p) (h6 : p < g) :
    Calls Tryd.prog 10 #[.agg #[.int .i64 3, .int .i64 g, .int .i64 t, .int .i64 p, .int .i64 pg, .string key, .bool hb, .string sb, .bool ha, .string sa, .int .i64 u]] w fun e w' => e = .returned (.bool ((decide (0 ≤ pg) && decide (pg ≤ 63)) && kyOk key && (vlOk hb sb && vlOk ha sa) && !(vlEq hb sb ha sa) && (decide (1 ≤ u) && decide (u ≤ p)))) ∧ Below w.heap.size w w' := by
  have HP := Lib.hid (fun W => page_any 3 W)
  have HK := Lib.hid (fun W => refKey_any key W)
  have HV := Lib.hid (fun W => refValue_any hb sb W)
  have HW := Lib.hid (fun W => refValue_any ha sa W)
  have hp0 : (p == 0) = false := by rw [beq_eq_false_iff_ne]; omega
  have a1 : ¬ t < 1 := by omega
  have a2 : ¬ 2147483647 < t := by omega
  have a3 : ¬ g < 1 := by omega
  have a4 : ¬ 4611686018427387903 < g := by omega
  have a5 : ¬ p < 0 := by omega
  have a6 : ¬ g ≤ p := by omega
  clear h1 h2 h3 h4 h5 h6
  generalize kyOk key = b2 at HK ⊢
  generalize vlOk hb sb = b3 at HV ⊢
  generalize vlOk ha sa = b4 at HW ⊢
  obtain ⟨R, HR⟩ : ∃ R, Hid (R = ((decide (0 ≤ pg) && decide (pg ≤ 63)) && b2 && (b3 && b4) && !(vlEq hb sb ha sa) && (decide (1 ≤ u) && decide (u ≤ p)))) := ⟨_, Lib.hid rfl⟩
  rw [← HR.out]
  by_cases q1 : pg < 0
  · have hR : R = false := by rw [HR.out, show decide (0 ≤ pg) = false from decide_eq_false (by omega)]; rfl
    clear HR
    go_enter Tryd.func10, Tryd.ntmps10
    go_wp2_with fail
    refine (HP.out _).mono ?_
    rintro x w1 ⟨rfl, rfl⟩
    go_wp2
    go_ret
    exact ⟨by first | (rw [hR]; rfl) | rfl, bw_alloc (Below.refl w.heap.size w)⟩
  by_cases q2 : 63 < pg
  · have hR : R = false := by rw [HR.out, show decide (pg ≤ 63) = false from decide_eq_false (by omega), Bool.and_false]; rfl
    clear HR
    go_enter Tryd.func10, Tryd.ntmps10
    go_wp2_with fail
    refine (HP.out _).mono ?_
    rintro x w1 ⟨rfl, rfl⟩
    go_wp2
    go_ret
    exact ⟨by first | (rw [hR]; rfl) | rfl, bw_alloc (Below.refl w.heap.size w)⟩
  have e1 : decide (0 ≤ pg) = true := decide_eq_true (by omega)
  have e2 : decide (pg ≤ 63) = true := decide_eq_true (by omega)
  rw [e1, e2] at HR
  clear e1 e2
  cases b2
  · go_enter Tryd.func10, Tryd.ntmps10
    go_wp2_with fail
    refine (HP.out _).mono ?_
    rintro x w1 ⟨rfl, rfl⟩
    go_wp2_with fail
    refine (HK.out _).mono ?_
    rintro x w1 ⟨rfl, rfl⟩
    go_wp2
    go_ret
    exact ⟨by rw [HR.out]; rfl, bw_alloc (Below.refl w.heap.size w)⟩
  cases b3
  · go_enter Tryd.func10, Tryd.ntmps10
    go_wp2_with fail
    refine (HP.out _).mono ?_
    rintro x w1 ⟨rfl, rfl⟩
    go_wp2_with fail
    refine (HK.out _).mono ?_
    rintro x w1 ⟨rfl, rfl⟩
    go_wp2_with fail
    refine (HV.out _).mono ?_
    rintro x w1 ⟨rfl, hb1⟩
    have hbw1 := bw_call hb1 (bw_alloc (Below.refl w.heap.size w))
    have c0 : w1.cell? ⟨w.heap.size, 0, none⟩ = some (.int .i64 3) := keep_cell hb1 (new_cell rfl rfl)
    have c1 : w1.cell? ⟨w.heap.size, 1, none⟩ = some (.int .i64 g) := keep_cell hb1 (new_cell rfl rfl)
    have c2 : w1.cell? ⟨w.heap.size, 2, none⟩ = some (.int .i64 t) := keep_cell hb1 (new_cell rfl rfl)
    have c3 : w1.cell? ⟨w.heap.size, 3, none⟩ = some (.int .i64 p) := keep_cell hb1 (new_cell rfl rfl)
    have c4 : w1.cell? ⟨w.heap.size, 4, none⟩ = some (.int .i64 pg) := keep_cell hb1 (new_cell rfl rfl)
    have c5 : w1.cell? ⟨w.heap.size, 5, none⟩ = some (.string key) := keep_cell hb1 (new_cell rfl rfl)
    have c6 : w1.cell? ⟨w.heap.size, 6, none⟩ = some (.bool hb) := keep_cell hb1 (new_cell rfl rfl)
    have c7 : w1.cell? ⟨w.heap.size, 7, none⟩ = some (.string sb) := keep_cell hb1 (new_cell rfl rfl)
    have c8 : w1.cell? ⟨w.heap.size, 8, none⟩ = some (.bool ha) := keep_cell hb1 (new_cell rfl rfl)
    have c9 : w1.cell? ⟨w.heap.size, 9, none⟩ = some (.string sa) := keep_cell hb1 (new_cell rfl rfl)
    have c10 : w1.cell? ⟨w.heap.size, 10, none⟩ = some (.int .i64 u) := keep_cell hb1 (new_cell rfl rfl)
    clear hb1
    go_wp2
    go_ret
    exact ⟨by rw [HR.out]; rfl, hbw1⟩
  cases b4
  · go_enter Tryd.func10, Tryd.ntmps10
    go_wp2_with fail
    refine (HP.out _).mono ?_
    rintro x w1 ⟨rfl, rfl⟩
    go_wp2_with fail
    refine (HK.out _).mono ?_
    rintro x w1 ⟨rfl, rfl⟩
    go_wp2_with fail
    refine (HV.out _).mono ?_
    rintro x w1 ⟨rfl, hb1⟩
    have hbw1 := bw_call hb1 (bw_alloc (Below.refl w.heap.size w))
    have c0 : w1.cell? ⟨w.heap.size, 0, none⟩ = some (.int .i64 3) := keep_cell hb1 (new_cell rfl rfl)
    have c1 : w1.cell? ⟨w.heap.size, 1, none⟩ = some (.int .i64 g) := keep_cell hb1 (new_cell rfl rfl)
    have c2 : w1.cell? ⟨w.heap.size, 2, none⟩ = some (.int .i64 t) := keep_cell hb1 (new_cell rfl rfl)
    have c3 : w1.cell? ⟨w.heap.size, 3, none⟩ = some (.int .i64 p) := keep_cell hb1 (new_cell rfl rfl)
    have c4 : w1.cell? ⟨w.heap.size, 4, none⟩ = some (.int .i64 pg) := keep_cell hb1 (new_cell rfl rfl)
    have c5 : w1.cell? ⟨w.heap.size, 5, none⟩ = some (.string key) := keep_cell hb1 (new_cell rfl rfl)
    have c6 : w1.cell? ⟨w.heap.size, 6, none⟩ = some (.bool hb) := keep_cell hb1 (new_cell rfl rfl)
    have c7 : w1.cell? ⟨w.heap.size, 7, none⟩ = some (.string sb) := keep_cell hb1 (new_cell rfl rfl)
    have c8 : w1.cell? ⟨w.heap.size, 8, none⟩ = some (.bool ha) := keep_cell hb1 (new_cell rfl rfl)
    have c9 : w1.cell? ⟨w.heap.size, 9, none⟩ = some (.string sa) := keep_cell hb1 (new_cell rfl rfl)
    have c10 : w1.cell? ⟨w.heap.size, 10, none⟩ = some (.int .i64 u) := keep_cell hb1 (new_cell rfl rfl)
    clear hb1
    go_wp2_with fail
    refine (HW.out _).mono ?_
    rintro x w2 ⟨rfl, hb2⟩
    have hbw2 := bw_call hb2 hbw1
    replace c0 := keep_cell hb2 c0
    replace c1 := keep_cell hb2 c1
    replace c2 := keep_cell hb2 c2
    replace c3 := keep_cell hb2 c3
    replace c4 := keep_cell hb2 c4
    replace c5 := keep_cell hb2 c5
    replace c6 := keep_cell hb2 c6
    replace c7 := keep_cell hb2 c7
    replace c8 := keep_cell hb2 c8
    replace c9 := keep_cell hb2 c9
    replace c10 := keep_cell hb2 c10
    clear hb2
    go_wp2
    go_ret
    exact ⟨by rw [HR.out]; rfl, hbw2⟩
  have hq : R = (!(vlEq hb sb ha sa) && (decide (1 ≤ u) && decide (u ≤ p))) := HR.out
  clear HR
  by_cases hv : vlEq hb sb ha sa = true
  · have hR : R = false := by rw [hq, hv]; rfl
    clear hq
    unfold vlEq at hv
    simp only [Bool.and_eq_true, beq_iff_eq, decide_eq_true_eq] at hv
    obtain ⟨hv1, hv2⟩ := hv
    subst hv1
    cases hb
    · go_enter Tryd.func10, Tryd.ntmps10
      go_wp2_with fail
      refine (HP.out _).mono ?_
      rintro x w1 ⟨rfl, rfl⟩
      go_wp2_with fail
      refine (HK.out _).mono ?_
      rintro x w1 ⟨rfl, rfl⟩
      go_wp2_with fail
      refine (HV.out _).mono ?_
      rintro x w1 ⟨rfl, hb1⟩
      have hbw1 := bw_call hb1 (bw_alloc (Below.refl w.heap.size w))
      have c0 : w1.cell? ⟨w.heap.size, 0, none⟩ = some (.int .i64 3) := keep_cell hb1 (new_cell rfl rfl)
      have c1 : w1.cell? ⟨w.heap.size, 1, none⟩ = some (.int .i64 g) := keep_cell hb1 (new_cell rfl rfl)
      have c2 : w1.cell? ⟨w.heap.size, 2, none⟩ = some (.int .i64 t) := keep_cell hb1 (new_cell rfl rfl)
      have c3 : w1.cell? ⟨w.heap.size, 3, none⟩ = some (.int .i64 p) := keep_cell hb1 (new_cell rfl rfl)
      have c4 : w1.cell? ⟨w.heap.size, 4, none⟩ = some (.int .i64 pg) := keep_cell hb1 (new_cell rfl rfl)
      have c5 : w1.cell? ⟨w.heap.size, 5, none⟩ = some (.string key) := keep_cell hb1 (new_cell rfl rfl)
      have c6 : w1.cell? ⟨w.heap.size, 6, none⟩ = some (.bool false) := keep_cell hb1 (new_cell rfl rfl)
      have c7 : w1.cell? ⟨w.heap.size, 7, none⟩ = some (.string sb) := keep_cell hb1 (new_cell rfl rfl)
      have c8 : w1.cell? ⟨w.heap.size, 8, none⟩ = some (.bool false) := keep_cell hb1 (new_cell rfl rfl)
      have c9 : w1.cell? ⟨w.heap.size, 9, none⟩ = some (.string sa) := keep_cell hb1 (new_cell rfl rfl)
      have c10 : w1.cell? ⟨w.heap.size, 10, none⟩ = some (.int .i64 u) := keep_cell hb1 (new_cell rfl rfl)
      clear hb1
      go_wp2_with fail
      refine (HW.out _).mono ?_
      rintro x w2 ⟨rfl, hb2⟩
      have hbw2 := bw_call hb2 hbw1
      replace c0 := keep_cell hb2 c0
      replace c1 := keep_cell hb2 c1
      replace c2 := keep_cell hb2 c2
      replace c3 := keep_cell hb2 c3
      replace c4 := keep_cell hb2 c4
      replace c5 := keep_cell hb2 c5
      replace c6 := keep_cell hb2 c6
      replace c7 := keep_cell hb2 c7
      replace c8 := keep_cell hb2 c8
      replace c9 := keep_cell hb2 c9
      replace c10 := keep_cell hb2 c10
      clear hb2
      go_wp2
      go_ret
      exact ⟨by first | (rw [hR]; rfl) | rfl, hbw2⟩
    · go_enter Tryd.func10, Tryd.ntmps10
      go_wp2_with fail
      refine (HP.out _).mono ?_
      rintro x w1 ⟨rfl, rfl⟩
      go_wp2_with fail
      refine (HK.out _).mono ?_
      rintro x w1 ⟨rfl, rfl⟩
      go_wp2_with fail
      refine (HV.out _).mono ?_
      rintro x w1 ⟨rfl, hb1⟩
      have hbw1 := bw_call hb1 (bw_alloc (Below.refl w.heap.size w))
      have c0 : w1.cell? ⟨w.heap.size, 0, none⟩ = some (.int .i64 3) := keep_cell hb1 (new_cell rfl rfl)
      have c1 : w1.cell? ⟨w.heap.size, 1, none⟩ = some (.int .i64 g) := keep_cell hb1 (new_cell rfl rfl)
      have c2 : w1.cell? ⟨w.heap.size, 2, none⟩ = some (.int .i64 t) := keep_cell hb1 (new_cell rfl rfl)
      have c3 : w1.cell? ⟨w.heap.size, 3, none⟩ = some (.int .i64 p) := keep_cell hb1 (new_cell rfl rfl)
      have c4 : w1.cell? ⟨w.heap.size, 4, none⟩ = some (.int .i64 pg) := keep_cell hb1 (new_cell rfl rfl)
      have c5 : w1.cell? ⟨w.heap.size, 5, none⟩ = some (.string key) := keep_cell hb1 (new_cell rfl rfl)
      have c6 : w1.cell? ⟨w.heap.size, 6, none⟩ = some (.bool true) := keep_cell hb1 (new_cell rfl rfl)
      have c7 : w1.cell? ⟨w.heap.size, 7, none⟩ = some (.string sb) := keep_cell hb1 (new_cell rfl rfl)
      have c8 : w1.cell? ⟨w.heap.size, 8, none⟩ = some (.bool true) := keep_cell hb1 (new_cell rfl rfl)
      have c9 : w1.cell? ⟨w.heap.size, 9, none⟩ = some (.string sa) := keep_cell hb1 (new_cell rfl rfl)
      have c10 : w1.cell? ⟨w.heap.size, 10, none⟩ = some (.int .i64 u) := keep_cell hb1 (new_cell rfl rfl)
      clear hb1
      go_wp2_with fail
      refine (HW.out _).mono ?_
      rintro x w2 ⟨rfl, hb2⟩
      have hbw2 := bw_call hb2 hbw1
      replace c0 := keep_cell hb2 c0
      replace c1 := keep_cell hb2 c1
      replace c2 := keep_cell hb2 c2
      replace c3 := keep_cell hb2 c3
      replace c4 := keep_cell hb2 c4
      replace c5 := keep_cell hb2 c5
      replace c6 := keep_cell hb2 c6
      replace c7 := keep_cell hb2 c7
      replace c8 := keep_cell hb2 c8
      replace c9 := keep_cell hb2 c9
      replace c10 := keep_cell hb2 c10
      clear hb2
      go_wp2
      go_ret
      exact ⟨by first | (rw [hR]; rfl) | rfl, hbw2⟩
  · have hv : vlEq hb sb ha sa = false := by simpa using hv
    have hR : Hid (R = (decide (1 ≤ u) && decide (u ≤ p))) := Lib.hid (by rw [hq, hv]; rfl)
    clear hq
    cases hb <;> cases ha
    · have hs : ¬ sb.toList = sa.toList := by simpa [vlEq] using hv
      go_enter Tryd.func10, Tryd.ntmps10
      go_wp2_with fail
      refine (HP.out _).mono ?_
      rintro x w1 ⟨rfl, rfl⟩
      go_wp2_with fail
      refine (HK.out _).mono ?_
      rintro x w1 ⟨rfl, rfl⟩
      go_wp2_with fail
      refine (HV.out _).mono ?_
      rintro x w1 ⟨rfl, hb1⟩
      have hbw1 := bw_call hb1 (bw_alloc (Below.refl w.heap.size w))
      have c0 : w1.cell? ⟨w.heap.size, 0, none⟩ = some (.int .i64 3) := keep_cell hb1 (new_cell rfl rfl)
      have c1 : w1.cell? ⟨w.heap.size, 1, none⟩ = some (.int .i64 g) := keep_cell hb1 (new_cell rfl rfl)
      have c2 : w1.cell? ⟨w.heap.size, 2, none⟩ = some (.int .i64 t) := keep_cell hb1 (new_cell rfl rfl)
      have c3 : w1.cell? ⟨w.heap.size, 3, none⟩ = some (.int .i64 p) := keep_cell hb1 (new_cell rfl rfl)
      have c4 : w1.cell? ⟨w.heap.size, 4, none⟩ = some (.int .i64 pg) := keep_cell hb1 (new_cell rfl rfl)
      have c5 : w1.cell? ⟨w.heap.size, 5, none⟩ = some (.string key) := keep_cell hb1 (new_cell rfl rfl)
      have c6 : w1.cell? ⟨w.heap.size, 6, none⟩ = some (.bool false) := keep_cell hb1 (new_cell rfl rfl)
      have c7 : w1.cell? ⟨w.heap.size, 7, none⟩ = some (.string sb) := keep_cell hb1 (new_cell rfl rfl)
      have c8 : w1.cell? ⟨w.heap.size, 8, none⟩ = some (.bool false) := keep_cell hb1 (new_cell rfl rfl)
      have c9 : w1.cell? ⟨w.heap.size, 9, none⟩ = some (.string sa) := keep_cell hb1 (new_cell rfl rfl)
      have c10 : w1.cell? ⟨w.heap.size, 10, none⟩ = some (.int .i64 u) := keep_cell hb1 (new_cell rfl rfl)
      clear hb1
      go_wp2_with fail
      refine (HW.out _).mono ?_
      rintro x w2 ⟨rfl, hb2⟩
      have hbw2 := bw_call hb2 hbw1
      replace c0 := keep_cell hb2 c0
      replace c1 := keep_cell hb2 c1
      replace c2 := keep_cell hb2 c2
      replace c3 := keep_cell hb2 c3
      replace c4 := keep_cell hb2 c4
      replace c5 := keep_cell hb2 c5
      replace c6 := keep_cell hb2 c6
      replace c7 := keep_cell hb2 c7
      replace c8 := keep_cell hb2 c8
      replace c9 := keep_cell hb2 c9
      replace c10 := keep_cell hb2 c10
      clear hb2
      go_wp2_with fail
      refine (HP.out _).mono ?_
      rintro x w3 ⟨rfl, rfl⟩
      by_cases hu : 1 ≤ u
      · have hS : Hid (R = decide (u ≤ p)) := Lib.hid (by rw [hR.out, decide_eq_true hu, Bool.true_and])
        clear hR
        go_wp2
        go_ret
        exact ⟨by rw [hS.out]; rfl, hbw2⟩
      · have hS : Hid (R = false) := Lib.hid (by rw [hR.out, decide_eq_false hu, Bool.false_and])
        have hu : u < 1 := by omega
        clear hR
        go_wp2
        go_ret
        exact ⟨by rw [hS.out]; rfl, hbw2⟩
    · go_enter Tryd.func10, Tryd.ntmps10
      go_wp2_with fail
      refine (HP.out _).mono ?_
      rintro x w1 ⟨rfl, rfl⟩
      go_wp2_with fail
      refine (HK.out _).mono ?_
      rintro x w1 ⟨rfl, rfl⟩
      go_wp2_with fail
      refine (HV.out _).mono ?_
      rintro x w1 ⟨rfl, hb1⟩
      have hbw1 := bw_call hb1 (bw_alloc (Below.refl w.heap.size w))
      have c0 : w1.cell? ⟨w.heap.size, 0, none⟩ = some (.int .i64 3) := keep_cell hb1 (new_cell rfl rfl)
      have c1 : w1.cell? ⟨w.heap.size, 1, none⟩ = some (.int .i64 g) := keep_cell hb1 (new_cell rfl rfl)
      have c2 : w1.cell? ⟨w.heap.size, 2, none⟩ = some (.int .i64 t) := keep_cell hb1 (new_cell rfl rfl)
      have c3 : w1.cell? ⟨w.heap.size, 3, none⟩ = some (.int .i64 p) := keep_cell hb1 (new_cell rfl rfl)
      have c4 : w1.cell? ⟨w.heap.size, 4, none⟩ = some (.int .i64 pg) := keep_cell hb1 (new_cell rfl rfl)
      have c5 : w1.cell? ⟨w.heap.size, 5, none⟩ = some (.string key) := keep_cell hb1 (new_cell rfl rfl)
      have c6 : w1.cell? ⟨w.heap.size, 6, none⟩ = some (.bool false) := keep_cell hb1 (new_cell rfl rfl)
      have c7 : w1.cell? ⟨w.heap.size, 7, none⟩ = some (.string sb) := keep_cell hb1 (new_cell rfl rfl)
      have c8 : w1.cell? ⟨w.heap.size, 8, none⟩ = some (.bool true) := keep_cell hb1 (new_cell rfl rfl)
      have c9 : w1.cell? ⟨w.heap.size, 9, none⟩ = some (.string sa) := keep_cell hb1 (new_cell rfl rfl)
      have c10 : w1.cell? ⟨w.heap.size, 10, none⟩ = some (.int .i64 u) := keep_cell hb1 (new_cell rfl rfl)
      clear hb1
      go_wp2_with fail
      refine (HW.out _).mono ?_
      rintro x w2 ⟨rfl, hb2⟩
      have hbw2 := bw_call hb2 hbw1
      replace c0 := keep_cell hb2 c0
      replace c1 := keep_cell hb2 c1
      replace c2 := keep_cell hb2 c2
      replace c3 := keep_cell hb2 c3
      replace c4 := keep_cell hb2 c4
      replace c5 := keep_cell hb2 c5
      replace c6 := keep_cell hb2 c6
      replace c7 := keep_cell hb2 c7
      replace c8 := keep_cell hb2 c8
      replace c9 := keep_cell hb2 c9
      replace c10 := keep_cell hb2 c10
      clear hb2
      go_wp2_with fail
      refine (HP.out _).mono ?_
      rintro x w3 ⟨rfl, rfl⟩
      by_cases hu : 1 ≤ u
      · have hS : Hid (R = decide (u ≤ p)) := Lib.hid (by rw [hR.out, decide_eq_true hu, Bool.true_and])
        clear hR
        go_wp2
        go_ret
        exact ⟨by rw [hS.out]; rfl, hbw2⟩
      · have hS : Hid (R = false) := Lib.hid (by rw [hR.out, decide_eq_false hu, Bool.false_and])
        have hu : u < 1 := by omega
        clear hR
        go_wp2
        go_ret
        exact ⟨by rw [hS.out]; rfl, hbw2⟩
    · go_enter Tryd.func10, Tryd.ntmps10
      go_wp2_with fail
      refine (HP.out _).mono ?_
      rintro x w1 ⟨rfl, rfl⟩
      go_wp2_with fail
      refine (HK.out _).mono ?_
      rintro x w1 ⟨rfl, rfl⟩
      go_wp2_with fail
      refine (HV.out _).mono ?_
      rintro x w1 ⟨rfl, hb1⟩
      have hbw1 := bw_call hb1 (bw_alloc (Below.refl w.heap.size w))
      have c0 : w1.cell? ⟨w.heap.size, 0, none⟩ = some (.int .i64 3) := keep_cell hb1 (new_cell rfl rfl)
      have c1 : w1.cell? ⟨w.heap.size, 1, none⟩ = some (.int .i64 g) := keep_cell hb1 (new_cell rfl rfl)
      have c2 : w1.cell? ⟨w.heap.size, 2, none⟩ = some (.int .i64 t) := keep_cell hb1 (new_cell rfl rfl)
      have c3 : w1.cell? ⟨w.heap.size, 3, none⟩ = some (.int .i64 p) := keep_cell hb1 (new_cell rfl rfl)
      have c4 : w1.cell? ⟨w.heap.size, 4, none⟩ = some (.int .i64 pg) := keep_cell hb1 (new_cell rfl rfl)
      have c5 : w1.cell? ⟨w.heap.size, 5, none⟩ = some (.string key) := keep_cell hb1 (new_cell rfl rfl)
      have c6 : w1.cell? ⟨w.heap.size, 6, none⟩ = some (.bool true) := keep_cell hb1 (new_cell rfl rfl)
      have c7 : w1.cell? ⟨w.heap.size, 7, none⟩ = some (.string sb) := keep_cell hb1 (new_cell rfl rfl)
      have c8 : w1.cell? ⟨w.heap.size, 8, none⟩ = some (.bool false) := keep_cell hb1 (new_cell rfl rfl)
      have c9 : w1.cell? ⟨w.heap.size, 9, none⟩ = some (.string sa) := keep_cell hb1 (new_cell rfl rfl)
      have c10 : w1.cell? ⟨w.heap.size, 10, none⟩ = some (.int .i64 u) := keep_cell hb1 (new_cell rfl rfl)
      clear hb1
      go_wp2_with fail
      refine (HW.out _).mono ?_
      rintro x w2 ⟨rfl, hb2⟩
      have hbw2 := bw_call hb2 hbw1
      replace c0 := keep_cell hb2 c0
      replace c1 := keep_cell hb2 c1
      replace c2 := keep_cell hb2 c2
      replace c3 := keep_cell hb2 c3
      replace c4 := keep_cell hb2 c4
      replace c5 := keep_cell hb2 c5
      replace c6 := keep_cell hb2 c6
      replace c7 := keep_cell hb2 c7
      replace c8 := keep_cell hb2 c8
      replace c9 := keep_cell hb2 c9
      replace c10 := keep_cell hb2 c10
      clear hb2
      go_wp2_with fail
      refine (HP.out _).mono ?_
      rintro x w3 ⟨rfl, rfl⟩
      by_cases hu : 1 ≤ u
      · have hS : Hid (R = decide (u ≤ p)) := Lib.hid (by rw [hR.out, decide_eq_true hu, Bool.true_and])
        clear hR
        go_wp2
        go_ret
        exact ⟨by rw [hS.out]; rfl, hbw2⟩
      · have hS : Hid (R = false) := Lib.hid (by rw [hR.out, decide_eq_false hu, Bool.false_and])
        have hu : u < 1 := by omega
        clear hR
        go_wp2
        go_ret
        exact ⟨by rw [hS.out]; rfl, hbw2⟩
    · have hs : ¬ sb.toList = sa.toList := by simpa [vlEq] using hv
      go_enter Tryd.func10, Tryd.ntmps10
      go_wp2_with fail
      refine (HP.out _).mono ?_
      rintro x w1 ⟨rfl, rfl⟩
      go_wp2_with fail
      refine (HK.out _).mono ?_
      rintro x w1 ⟨rfl, rfl⟩
      go_wp2_with fail
      refine (HV.out _).mono ?_
      rintro x w1 ⟨rfl, hb1⟩
      have hbw1 := bw_call hb1 (bw_alloc (Below.refl w.heap.size w))
      have c0 : w1.cell? ⟨w.heap.size, 0, none⟩ = some (.int .i64 3) := keep_cell hb1 (new_cell rfl rfl)
      have c1 : w1.cell? ⟨w.heap.size, 1, none⟩ = some (.int .i64 g) := keep_cell hb1 (new_cell rfl rfl)
      have c2 : w1.cell? ⟨w.heap.size, 2, none⟩ = some (.int .i64 t) := keep_cell hb1 (new_cell rfl rfl)
      have c3 : w1.cell? ⟨w.heap.size, 3, none⟩ = some (.int .i64 p) := keep_cell hb1 (new_cell rfl rfl)
      have c4 : w1.cell? ⟨w.heap.size, 4, none⟩ = some (.int .i64 pg) := keep_cell hb1 (new_cell rfl rfl)
      have c5 : w1.cell? ⟨w.heap.size, 5, none⟩ = some (.string key) := keep_cell hb1 (new_cell rfl rfl)
      have c6 : w1.cell? ⟨w.heap.size, 6, none⟩ = some (.bool true) := keep_cell hb1 (new_cell rfl rfl)
      have c7 : w1.cell? ⟨w.heap.size, 7, none⟩ = some (.string sb) := keep_cell hb1 (new_cell rfl rfl)
      have c8 : w1.cell? ⟨w.heap.size, 8, none⟩ = some (.bool true) := keep_cell hb1 (new_cell rfl rfl)
      have c9 : w1.cell? ⟨w.heap.size, 9, none⟩ = some (.string sa) := keep_cell hb1 (new_cell rfl rfl)
      have c10 : w1.cell? ⟨w.heap.size, 10, none⟩ = some (.int .i64 u) := keep_cell hb1 (new_cell rfl rfl)
      clear hb1
      go_wp2_with fail
      refine (HW.out _).mono ?_
      rintro x w2 ⟨rfl, hb2⟩
      have hbw2 := bw_call hb2 hbw1
      replace c0 := keep_cell hb2 c0
      replace c1 := keep_cell hb2 c1
      replace c2 := keep_cell hb2 c2
      replace c3 := keep_cell hb2 c3
      replace c4 := keep_cell hb2 c4
      replace c5 := keep_cell hb2 c5
      replace c6 := keep_cell hb2 c6
      replace c7 := keep_cell hb2 c7
      replace c8 := keep_cell hb2 c8
      replace c9 := keep_cell hb2 c9
      replace c10 := keep_cell hb2 c10
      clear hb2
      go_wp2_with fail
      refine (HP.out _).mono ?_
      rintro x w3 ⟨rfl, rfl⟩
      by_cases hu : 1 ≤ u
      · have hS : Hid (R = decide (u ≤ p)) := Lib.hid (by rw [hR.out, decide_eq_true hu, Bool.true_and])
        clear hR
        go_wp2
        go_ret
        exact ⟨by rw [hS.out]; rfl, hbw2⟩
      · have hS : Hid (R = false) := Lib.hid (by rw [hR.out, decide_eq_false hu, Bool.false_and])
        have hu : u < 1 := by omega
        clear hR
        go_wp2
        go_ret
        exact ⟨by rw [hS.out]; rfl, hbw2⟩
end Go.Proofs.YtlggbbaigcnpjaaDoor
