/-
  THE CONTRACT OF record.Encode, of a right record.
-/
import Derived.Test.YtlggbbaigcnpjaaDoorRcEnc
import Derived.Deep.Cut
import Derived.Deep.CutRange
import Derived.Deep.DeepCutAuto
namespace Go.Proofs.YtlggbbaigcnpjaaDoor
open Go.RowKit

set_option maxRecDepth 100000 in
set_option maxHeartbeats 8000000 in
theorem encode_yes (k g t p pg u : Int) (key sb sa : ByteArray) (hb ha : Bool) (w : World) (h : rcOk k g t p pg key hb sb ha sa u = true) :
    Calls Tryd.prog 7 #[.agg #[.int .i64 k, .int .i64 g, .int .i64 t, .int .i64 p, .int .i64 pg, .string key, .bool hb, .string sb, .bool ha, .string sa, .int .i64 u]] w
      fun e w' => e = .returned (.tuple #[.string (encStr k t p pg key hb sb ha sa u), .int .i64 0]) ∧ Below w.heap.size w w' := by
  have HR := Lib.hid (right_at k g t p pg u key sb sa hb ha)
  rw [h] at HR
  obtain ⟨hk1, hk6, ht1, ht2, hg1, hg2, hp1, hp2⟩ := rcOk_num h
  obtain ⟨hu1, hu2⟩ := rcOk_u h
  have HC := Lib.hid (fun hc => rcOk_chg h hc)
  clear h
  have HK := Lib.hid (fun W => changes_any k W)
  have HU := Lib.hid (fun W => undoSize_any k W)
  have hus : usz k ≤ 8 := by unfold usz; split; omega; split; omega; omega
  have P1 := Lib.hid (num1_at k (WalkArith.wf_i64 (by omega)))
  have P4 := Lib.hid (num4_at t (WalkArith.wf_i64 (by omega)))
  have P8 := Lib.hid (num8_at p (WalkArith.wf_i64 (by omega)))
  have z1 := num_size 1 k (by omega) (by omega)
  have z4 := num_size 4 t (by omega) (by omega)
  have z8 := num_size 8 p (by omega) (by omega)
  have PU := Lib.hid (fun (hz : 0 < usz k) g W hc => num_at (usz k) u (by omega) (WalkArith.wf_i64 (by omega)) g W hc)
  have zu := Lib.hid (fun (hz : 0 < usz k) => num_size (usz k) u (by omega) hus)
  have HS : Hid (encStr k t p pg key hb sb ha sa u = if 0 < usz k then (if (k == 2 || k == 3) then num 1 k ++ num 4 t ++ num 8 p ++ encMid pg key hb sb ha sa else num 1 k ++ num 4 t ++ num 8 p) ++ num (usz k) u else (if (k == 2 || k == 3) then num 1 k ++ num 4 t ++ num 8 p ++ encMid pg key hb sb ha sa else num 1 k ++ num 4 t ++ num 8 p)) := rfl
  have HM : Hid (encMid pg key hb sb ha sa = num 1 pg ++ num 1 (key.size : Int) ++ key ++ valS hb sb ++ valS ha sa) := rfl
  generalize encStr k t p pg key hb sb ha sa u = S at HS ⊢
  generalize encMid pg key hb sb ha sa = M at HS HM
  generalize num 1 k = n1 at P1 z1 HS
  generalize num 4 t = n4 at P4 z4 HS
  generalize num 8 p = n8 at P8 z8 HS
  generalize num (usz k) u = nu at PU zu HS
  generalize usz k = us at PU zu HS hus HU
  generalize (k == 2 || k == 3) = b0 at HK HC HS
  have a1 : ¬ 9223372036854775807 < n1.size + n4.size := by omega
  have a2 : ¬ 9223372036854775807 < (n1 ++ n4).size + n8.size := by rw [ByteArray.size_append]; omega
  have a2' : ¬ 9223372036854775807 < n1.size + n4.size + n8.size := by omega
  have a3 : (n1 ++ n4 ++ n8).size ≤ 24 := by rw [ByteArray.size_append, ByteArray.size_append]; omega
  go_enter Tryd.func7, Tryd.ntmps7
  go_wp2_with fail
  refine (HR.out _ _ ?_).mono ?_
  · exact rcIn_new _ _ _ _ _ _ _ _ _ _ _ _ _ _ (by rw [World.size_alloc])
  rintro x w1 ⟨rfl, hb1⟩
  have c0 : w1.cell? ⟨w.heap.size, 0, none⟩ = some (.int .i64 k) := keep_cell hb1 (keep_alloc (new_cell rfl rfl))
  have c1 : w1.cell? ⟨w.heap.size, 1, none⟩ = some (.int .i64 g) := keep_cell hb1 (keep_alloc (new_cell rfl rfl))
  have c2 : w1.cell? ⟨w.heap.size, 2, none⟩ = some (.int .i64 t) := keep_cell hb1 (keep_alloc (new_cell rfl rfl))
  have c3 : w1.cell? ⟨w.heap.size, 3, none⟩ = some (.int .i64 p) := keep_cell hb1 (keep_alloc (new_cell rfl rfl))
  have c4 : w1.cell? ⟨w.heap.size, 4, none⟩ = some (.int .i64 pg) := keep_cell hb1 (keep_alloc (new_cell rfl rfl))
  have c5 : w1.cell? ⟨w.heap.size, 5, none⟩ = some (.string key) := keep_cell hb1 (keep_alloc (new_cell rfl rfl))
  have c6 : w1.cell? ⟨w.heap.size, 6, none⟩ = some (.bool hb) := keep_cell hb1 (keep_alloc (new_cell rfl rfl))
  have c7 : w1.cell? ⟨w.heap.size, 7, none⟩ = some (.string sb) := keep_cell hb1 (keep_alloc (new_cell rfl rfl))
  have c8 : w1.cell? ⟨w.heap.size, 8, none⟩ = some (.bool ha) := keep_cell hb1 (keep_alloc (new_cell rfl rfl))
  have c9 : w1.cell? ⟨w.heap.size, 9, none⟩ = some (.string sa) := keep_cell hb1 (keep_alloc (new_cell rfl rfl))
  have c10 : w1.cell? ⟨w.heap.size, 10, none⟩ = some (.int .i64 u) := keep_cell hb1 (keep_alloc (new_cell rfl rfl))
  have hbw : Below w.heap.size w w1 := bw_call hb1 (bw_alloc (bw_alloc (Below.refl _ _)))
  clear hb1 HR
  go_wp2_with fail
  go_cut [4] (fun s4 wx => s4 = .string (n1 ++ n4 ++ n8) ∧ (wx.cell? ⟨w.heap.size, 0, none⟩ = some (.int .i64 k) ∧ wx.cell? ⟨w.heap.size, 4, none⟩ = some (.int .i64 pg) ∧ wx.cell? ⟨w.heap.size, 5, none⟩ = some (.string key) ∧ wx.cell? ⟨w.heap.size, 6, none⟩ = some (.bool hb) ∧ wx.cell? ⟨w.heap.size, 7, none⟩ = some (.string sb) ∧ wx.cell? ⟨w.heap.size, 8, none⟩ = some (.bool ha) ∧ wx.cell? ⟨w.heap.size, 9, none⟩ = some (.string sa) ∧ wx.cell? ⟨w.heap.size, 10, none⟩ = some (.int .i64 u)) ∧ Below w.heap.size w wx)
  case first =>
    go_region_held3 (fun w' => w'.cell? ⟨w.heap.size, 0, none⟩ = some (.int .i64 k) ∧ w'.cell? ⟨w.heap.size, 2, none⟩ = some (.int .i64 t) ∧ w'.cell? ⟨w.heap.size, 3, none⟩ = some (.int .i64 p))
      ((refine ⟨?_, ?_, ?_⟩ <;> (repeat (first | with_reducible assumption | with_reducible refine keep_alloc ?_ | with_reducible refine keep_drew ?_ | with_reducible refine keep_cell (by assumption) ?_))))
      (first
        | (go_at_call_of 15 (Value.int .i64 1); refine (P1.out _ _ ?_).mono ?_; (repeat (first | (with_reducible refine new_cell ?_ ?_ <;> first | rfl | (simp; done)) | with_reducible refine keep_alloc ?_ | with_reducible refine keep_drew ?_ | with_reducible refine keep_cell (by assumption) ?_)); rintro x w91 ⟨rfl, hb91⟩)
        | (go_at_call_of 15 (Value.int .i64 4); refine (P4.out _ _ ?_).mono ?_; (repeat (first | (with_reducible refine new_cell ?_ ?_ <;> first | rfl | (simp; done)) | with_reducible refine keep_alloc ?_ | with_reducible refine keep_drew ?_ | with_reducible refine keep_cell (by assumption) ?_)); rintro x w94 ⟨rfl, hb94⟩)
        | (go_at_call_of 15 (Value.int .i64 8); refine (P8.out _ _ ?_).mono ?_; (repeat (first | (with_reducible refine new_cell ?_ ?_ <;> first | rfl | (simp; done)) | with_reducible refine keep_alloc ?_ | with_reducible refine keep_drew ?_ | with_reducible refine keep_cell (by assumption) ?_)); rintro x w98 ⟨rfl, hb98⟩))
    all_goals go_wp2_with fail
    all_goals go_meet
    all_goals refine ⟨rfl, ⟨?_, ?_, ?_, ?_, ?_, ?_, ?_, ?_⟩, ?_⟩
    all_goals first | ((repeat (first | with_reducible assumption | with_reducible refine keep_alloc ?_ | with_reducible refine keep_drew ?_ | with_reducible refine keep_cell (by assumption) ?_)); done) | ((repeat (first | with_reducible assumption | with_reducible exact Below.refl _ _ | with_reducible refine bw_alloc ?_ | with_reducible refine bw_drew ?_ | with_reducible refine bw_call (by assumption) ?_)); done)
  case rest =>
  obtain ⟨rfl, ⟨d0, d4, d5, d6, d7, d8, d9, d10⟩, hbx⟩ := hcut
  generalize n1 ++ n4 ++ n8 = A at a3 HS ⊢
  clear c0 c1 c2 c3 c4 c5 c6 c7 c8 c9 c10 hbw P1 P4 P8 a1 a2 a2' z1 z4 z8
  go_wp2_with fail
  refine (HK.out _).mono ?_
  rintro x w4 ⟨rfl, rfl⟩
  clear HK
  cases b0
  · clear HC HM d4 d5 d6 d7 d8 d9
    rcases Nat.eq_zero_or_pos us with h0 | h0
    · subst h0
      go_wp2_with fail
      refine (HU.out _).mono ?_
      rintro x w5 ⟨rfl, rfl⟩
      go_wp2
      go_ret2
      exact ⟨by rw [HS.out]; rfl, hbx⟩
    · have PU := Lib.hid (PU.out h0)
      have zu := zu.out h0
      have hgt : (0 : Int) < (us : Int) := by omega
      have hc1 : ¬ 9223372036854775807 < A.size + nu.size := by omega
      rw [Hid, if_pos h0] at HS
      have HS := Lib.hid HS
      clear h0
      go_wp2_with fail
      refine (HU.out _).mono ?_
      rintro x w5 ⟨rfl, rfl⟩
      go_wp2_with fail
      refine (PU.out _ _ ?_).mono ?_
      · exact new_cell rfl rfl
      rintro x w6 ⟨rfl, hb6⟩
      go_wp2
      go_ret2
      exact ⟨by rw [HS.out]; rfl, bw_call hb6 (bw_alloc hbx)⟩
  · obtain ⟨g1, g2, g3, g4, g5, g6⟩ := HC.out rfl
    clear HC
    have Q1 := Lib.hid (num1_at pg (WalkArith.wf_i64 (by omega)))
    have Q2 := Lib.hid (num1_at (key.size : Int) (WalkArith.wf_i64 (by omega)))
    have Q3 := Lib.hid (fun W => laid_any hb sb W (by omega))
    have Q4 := Lib.hid (fun W => laid_any ha sa W (by omega))
    have y1 := num_size 1 pg (by omega) (by omega)
    have y2 := num_size 1 (key.size : Int) (by omega) (by omega)
    have y3 := valS_size hb sb
    have y4 := valS_size ha sa
    generalize num 1 pg = m1 at Q1 y1 HM
    generalize num 1 (key.size : Int) = m2 at Q2 y2 HM
    generalize valS hb sb = v1 at Q3 y3 HM
    generalize valS ha sa = v2 at Q4 y4 HM
    have a1 : ¬ 9223372036854775807 < m1.size + m2.size := by omega
    have a2 : ¬ 9223372036854775807 < m1.size + m2.size + key.size := by omega
    have a4 : ¬ 9223372036854775807 < m1.size + m2.size + key.size + v1.size := by omega
    have a5 : ¬ 9223372036854775807 < m1.size + m2.size + key.size + v1.size + v2.size := by omega
    have a6 : ¬ 9223372036854775807 < A.size + (m1.size + m2.size + key.size + v1.size + v2.size) := by omega
    have hM : (A ++ M).size ≤ 200 := by rw [HM.out]; simp only [ByteArray.size_append]; omega
    go_wp2_with fail
    go_cut [4] (fun s4 wx => s4 = .string (A ++ M) ∧ wx.cell? ⟨w.heap.size, 0, none⟩ = some (.int .i64 k) ∧ wx.cell? ⟨w.heap.size, 10, none⟩ = some (.int .i64 u) ∧ Below w.heap.size w wx)
    case first =>
      go_region_held3 (fun w' => w'.cell? ⟨w.heap.size, 0, none⟩ = some (.int .i64 k) ∧ w'.cell? ⟨w.heap.size, 4, none⟩ = some (.int .i64 pg) ∧ w'.cell? ⟨w.heap.size, 5, none⟩ = some (.string key) ∧ w'.cell? ⟨w.heap.size, 6, none⟩ = some (.bool hb) ∧ w'.cell? ⟨w.heap.size, 7, none⟩ = some (.string sb) ∧ w'.cell? ⟨w.heap.size, 8, none⟩ = some (.bool ha) ∧ w'.cell? ⟨w.heap.size, 9, none⟩ = some (.string sa) ∧ w'.cell? ⟨w.heap.size, 10, none⟩ = some (.int .i64 u))
        ((refine ⟨?_, ?_, ?_, ?_, ?_, ?_, ?_, ?_⟩ <;> (repeat (first | with_reducible assumption | with_reducible refine keep_alloc ?_ | with_reducible refine keep_drew ?_ | with_reducible refine keep_cell (by assumption) ?_))))
        (first
          | (go_at_call 15; refine (Q1.out _ _ ?_).mono ?_; (focus ((repeat (first | (with_reducible refine new_cell ?_ ?_ <;> first | rfl | (simp; done)) | with_reducible refine keep_alloc ?_ | with_reducible refine keep_drew ?_ | with_reducible refine keep_cell (by assumption) ?_)); done)); rintro x w95 ⟨rfl, hb95⟩)
          | (go_at_call 15; refine (Q2.out _ _ ?_).mono ?_; (focus ((repeat (first | (with_reducible refine new_cell ?_ ?_ <;> first | rfl | (simp; done)) | with_reducible refine keep_alloc ?_ | with_reducible refine keep_drew ?_ | with_reducible refine keep_cell (by assumption) ?_)); done)); rintro x w96 ⟨rfl, hb96⟩)
          | (go_at_call_of 17 (Value.agg #[.bool hb, .string sb]); refine (Q3.out _).mono ?_; rintro x w92 ⟨rfl, hb92⟩)
          | (go_at_call_of 17 (Value.agg #[.bool ha, .string sa]); refine (Q4.out _).mono ?_; rintro x w93 ⟨rfl, hb93⟩))
      all_goals go_wp2_with fail
      all_goals go_meet
      all_goals refine ⟨by rw [HM.out], ?_, ?_, ?_⟩
      all_goals first | ((repeat (first | with_reducible assumption | with_reducible refine keep_alloc ?_ | with_reducible refine keep_drew ?_ | with_reducible refine keep_cell (by assumption) ?_)); done) | ((repeat (first | with_reducible assumption | with_reducible exact Below.refl _ _ | with_reducible refine bw_alloc ?_ | with_reducible refine bw_drew ?_ | with_reducible refine bw_call (by assumption) ?_)); done)
    case rest =>
    obtain ⟨rfl, e0, e10, hby⟩ := hcut
    clear d0 d4 d5 d6 d7 d8 d9 d10 hbx Q1 Q2 Q3 Q4 a1 a2 a4 a5 a6 y1 y2 y3 y4 HM
    generalize A ++ M = AM at hM HS ⊢
    rcases Nat.eq_zero_or_pos us with h0 | h0
    · subst h0
      go_wp2_with fail
      refine (HU.out _).mono ?_
      rintro x w5 ⟨rfl, rfl⟩
      go_wp2
      go_ret2
      exact ⟨by rw [HS.out]; rfl, hby⟩
    · have PU := Lib.hid (PU.out h0)
      have zu := zu.out h0
      have hgt : (0 : Int) < (us : Int) := by omega
      have hc1 : ¬ 9223372036854775807 < AM.size + nu.size := by omega
      rw [Hid, if_pos h0] at HS
      have HS := Lib.hid HS
      clear h0
      go_wp2_with fail
      refine (HU.out _).mono ?_
      rintro x w5 ⟨rfl, rfl⟩
      go_wp2_with fail
      refine (PU.out _ _ ?_).mono ?_
      · exact new_cell rfl rfl
      rintro x w6 ⟨rfl, hb6⟩
      go_wp2
      go_ret2
      exact ⟨by rw [HS.out]; rfl, bw_call hb6 (bw_alloc hby)⟩
end Go.Proofs.YtlggbbaigcnpjaaDoor
