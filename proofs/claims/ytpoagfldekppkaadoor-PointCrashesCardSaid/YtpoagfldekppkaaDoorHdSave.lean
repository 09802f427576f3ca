/-
  THE CONTRACT OF head.Save, of a device that is on, and of one that is off.
-/
import Derived.Test.YtpoagfldekppkaaDoorHdSaveA
namespace Go.Proofs.YtpoagfldekppkaaDoor
open Go.RowKit
section
variable {D P L M n k : Nat} {uses left : Int} {las : List (List UInt8)} {f : Int → Option (List UInt8)}
theorem dev_D {w : World} {off armed : Bool} (h : Dv.DevAt w D P L M n k off uses armed left las f) : D < w.heap.size := Dv.block_lt (p := ⟨D, 0, none⟩) h.d0
theorem tab_fr {w X : World} (ht : Tab w) (hf : Dv.Fr3 P L M w X) (h : 2 ≠ P ∧ 2 ≠ L ∧ 2 ≠ M) : Tab X := fun k hk => hf.cell (ht k hk) h.1 h.2.1 h.2.2
/-- What Save answers, and what it leaves. -/
def SvAns (w : World) (D P L M n k : Nat) (uses left : Int) (las : List (List UInt8)) (f : Int → Option (List UInt8)) (i s e c st m : Int) (x : Ending) (w' : World) : Prop :=
  x = .returned (.tuple #[.agg #[.int .i64 s, .int .i64 e, .int .i64 c, .int .i64 st, .int .i64 m], .int .i64 0]) ∧
    ∃ las2, Dv.DevAt w' D P L M n (k + 1) false (uses + 1 + 1) false left las2 (fun _ => none) ∧ (∀ j : Nat, j < n → las2.getD j Dv.blank64 = Dv.secAt las (Dv.upd f (i + s % 2) (some (hdStr s e c st m).data.toList)) j) ∧ Dv.Fr3 P L M w w'
set_option maxRecDepth 100000 in
set_option maxHeartbeats 4000000 in
theorem save_any (w : World) (h : Dv.DevAt w D P L M n k false uses false left las f) (hu : 0 ≤ uses ∧ uses ≤ 900000000) (hk : k ≤ 900000) (i : Nat) (hi : i + 2 ≤ n) (hn : n ≤ 4096) (hf : ∀ z l, f z = some l → 0 ≤ z ∧ z < (n : Int) ∧ l.length = 64) (ht : Tab w)
    (s e c st m : Int) (ho : hdOk s e c st m = true) (ho2 : hdOk (s + 1) e c st m = true) :
    Calls Tryd.prog 18 #[.pointer (some ⟨D, 0, none⟩), .int .i64 i, .agg #[.int .i64 s, .int .i64 e, .int .i64 c, .int .i64 st, .int .i64 m]] w (SvAns w D P L M n k uses left las f i (s + 1) e c st m) := by
  have KK := Lib.hid (fun W (h : Dv.DevAt W D P L M n k false uses false left las f) => kept_yes h (i : Int) ⟨by omega, by omega⟩ hn)
  have KR := Lib.hid (fun W => hright_any s e c st m W)
  rw [ho] at KR
  have KL := Lib.hid (fun W hT => hlaid_any (s + 1) e c st m W ho2 hT)
  have hsz := hdStr_size ho2
  obtain ⟨HS, hHS⟩ : ∃ HS, hdStr (s + 1) e c st m = HS := ⟨_, rfl⟩
  have HHS := Lib.hid hHS
  rw [hHS] at KL hsz
  clear hHS
  obtain ⟨hs0, hs1⟩ := (hdOk_parts ho).1
  have hs2 := (hdOk_parts ho2).1.2
  have V0 := Lib.hid (svW_new h s e c st m 44)
  have hb0 := (save_new w s e c st m 44).1.bw
  have HD := Lib.hid (h.below hb0)
  have hD := dev_D h
  have HT := Lib.hid ht
  have HB := Lib.hid hb0
  clear ht h ho ho2 hb0
  go_enter Tryd.func18, Tryd.ntmps18
  go_wp2_with fail
  refine (KK.out _ HD.out).mono ?_
  rintro x w' ⟨rfl, rfl⟩
  clear KK
  obtain ⟨⟨q0, q1, q2, q3, q4⟩, qf⟩ := V0.out.q
  go_wp2_with fail
  refine (KR.out _).mono ?_
  rintro x w1 ⟨rfl, hb1⟩
  have V1 := Lib.hid (V0.out.fr3 (Dv.Fr3.of_below hb1))
  have D1 := Lib.hid (HD.out.below hb1)
  have B1 := Lib.hid (HB.out.trans (hb1.mono HB.out.size))
  clear hb1 KR V0 HD HB q0 q1 q2 q3 q4 qf
  obtain ⟨⟨q0, q1, q2, q3, q4⟩, qf⟩ := V1.out.q
  have V2 := Lib.hid (V1.out.seq (s + 1))
  have D2 := Lib.hid (svW_dev V1.out D1.out hD (s + 1))
  have T2 := Lib.hid (HT.out.below (B1.out.setCell V1.out.hQ (.int .i64 (s + 1)) (p := ⟨w.heap.size, 0, none⟩)))
  clear V1 D1 B1 HT
  go_upto_region 4 with fail
  generalize w1.setCell ⟨w.heap.size, 0, none⟩ (.int .i64 (s + 1)) = Y at *
  clear q0 q1 q2 q3 q4 qf
  obtain ⟨⟨q0, q1, q2, q3, q4⟩, _⟩ := V2.out.q
  go_wp2_with fail
  refine (KL.out _ T2.out).mono ?_
  rintro x w3 ⟨rfl, hb3⟩
  have V3 := Lib.hid (V2.out.fr3 (Dv.Fr3.of_below hb3))
  have D3 := Lib.hid (D2.out.below hb3)
  clear hb3 KL V2 D2 T2 q0 q1 q2 q3 q4
  obtain ⟨⟨q0, q1, q2, q3, q4⟩, _⟩ := V3.out.q
  have HSZ := Lib.hid hsz
  have hne : HS ≠ ⟨#[]⟩ := fun e => by rw [e] at hsz; exact absurd hsz (by decide)
  have hn1 := hba_neL hne
  have hn2 := hba_neL' hne
  have hn3 : HS.toList.isEmpty = false := by rw [List.isEmpty_eq_false_iff]; intro e; exact hn2 (by rw [e, ByteArray.toList_eq])
  clear hne hsz
  have hmod : 0 ≤ (s + 1).tmod 2 ∧ (s + 1).tmod 2 < 2 := by rw [Int.tmod_eq_emod_of_nonneg (by omega)]; omega
  obtain ⟨hm0, hm1⟩ := hmod
  go_upto_region 7 with fail
  have hby := (Below.refl w3.heap.size w3).alloc (Nat.le_refl _) (.cells #[.string HS] 9)
  have V4 := Lib.hid (V3.out.fr3 (Dv.Fr3.of_below hby))
  have D4 := Lib.hid (D3.out.below hby)
  have hP3 := (dev_lts D3.out).1
  have hS4 : Hid (Dv.StrsAt ((w3.alloc (.cells #[.string HS] 9)).setCell ⟨P, 1, none⟩ (.int .i64 (uses + 1))) (some ⟨w3.heap.size, 0, none⟩) [HS]) := .inr ⟨w3.heap.size, 0, rfl, fun j hj => by
    match j, hj with
    | 0, _ =>
      rw [World.cell?_setCell_other _ _ _ _ (fun e => by injection e with e _; omega)]
      exact new_h rfl rfl⟩
  have hj1 : Dv.joined [HS] = HS.data.toList := by unfold Dv.joined; simp
  have hl64 : HS.data.toList.length = 64 := HSZ.out
  have hpad : Dv.pad HS.data.toList = HS.data.toList := by unfold Dv.pad; rw [hl64]; simp
  have hm2 : 0 ≤ (i : Int) + (s + 1) % 2 ∧ (i : Int) + (s + 1) % 2 < (n : Int) := by omega
  have KW := Lib.hid (Dv.write_fr D4.out (by omega) (by omega) ((i : Int) + (s + 1) % 2) hm2 hn (some ⟨w3.heap.size, 0, none⟩) [HS] 1 (show 1 ≤ 1000000 by omega) hS4.out (fun j => by
    match j with
    | 0 => show HS.size ≤ _; rw [HSZ.out]; decide
    | j + 1 => show ByteArray.size ByteArray.empty ≤ _; decide) (by rw [hj1, hl64]; decide))
  rw [hj1] at KW
  clear hby D3 V3 hP3 hS4 hj1 hl64 D4
  go_wp2_with fail
  refine KW.out.mono ?_
  rintro x w5 ⟨rfl, hd5, hf5⟩
  rw [hpad] at hd5
  have V5 := Lib.hid (V4.out.fr3 hf5)
  have D5 := Lib.hid hd5
  have hff : ∀ z l, Dv.upd f ((i : Int) + (s + 1) % 2) (some HS.data.toList) z = some l → 0 ≤ z ∧ z < (n : Int) ∧ l.length = 64 := by
    intro z l hz
    unfold Dv.upd at hz
    split at hz
    · rename_i e
      injection hz with hz
      subst hz e
      exact ⟨hm2.1, hm2.2, HSZ.out⟩
    · exact hf z l hz
  have KY := Lib.hid (Dv.sync_any D5.out (by omega) hff)
  clear hd5 hf5 V4 KW q0 q1 q2 q3 q4 hff D5
  go_wp2_with fail
  refine KY.out.mono ?_
  rintro x w6 ⟨rfl, las2, hd6, hl6, hf6⟩
  have V6 := Lib.hid (V5.out.fr3 hf6)
  have D6 := Lib.hid hd6
  clear KY V5 hd6 hf6
  obtain ⟨⟨q0, q1, q2, q3, q4⟩, _⟩ := V6.out.q
  obtain ⟨r0, r1, r2, r3, r4⟩ := V6.out.r
  have rf := V6.out.rf
  go_wp2
  obtain ⟨X, hX, ⟨x0, x1, x2, x3, x4⟩, hdX, hfX⟩ := svW_out V6.out D6.out hD (.int .i64 (s + 1)) (.int .i64 e) (.int .i64 c) (.int .i64 st) (.int .i64 m)
  rw [hX]
  refine bodyPost_ret (v := .tuple #[.agg #[.int .i64 (s + 1), .int .i64 e, .int .i64 c, .int .i64 st, .int .i64 m], .int .i64 0]) ?_ rfl ⟨rfl, las2, hdX, ?_, hfX⟩
  · simp [results, Tryd.results18, go_sem, x0, x1, x2, x3, x4]
  · rw [HHS.out]; exact hl6
set_option maxRecDepth 100000 in
set_option maxHeartbeats 4000000 in
theorem save_off (w : World) {armed : Bool} (h : Dv.DevAt w D P L M n k true uses armed left las f) (i : Nat) (hi : i + 2 ≤ n) (hn : n ≤ 4096) (ht : Tab w)
    (s e c st m : Int) (ho : hdOk s e c st m = true) (ho2 : hdOk (s + 1) e c st m = true) :
    Calls Tryd.prog 18 #[.pointer (some ⟨D, 0, none⟩), .int .i64 i, .agg #[.int .i64 s, .int .i64 e, .int .i64 c, .int .i64 st, .int .i64 m]] w
      fun x w' => x = .returned (.tuple #[.agg #[.int .i64 0, .int .i64 0, .int .i64 0, .int .i64 0, .int .i64 0], .int .i64 6]) ∧ Dv.Fr3 P L M w w' := by
  have KK := Lib.hid (fun W (h : Dv.DevAt W D P L M n k true uses armed left las f) => kept_yes h (i : Int) ⟨by omega, by omega⟩ hn)
  have KR := Lib.hid (fun W => hright_any s e c st m W)
  rw [ho] at KR
  have KL := Lib.hid (fun W hT => hlaid_any (s + 1) e c st m W ho2 hT)
  have hsz := hdStr_size ho2
  obtain ⟨HS, hHS⟩ : ∃ HS, hdStr (s + 1) e c st m = HS := ⟨_, rfl⟩
  have HHS := Lib.hid hHS
  rw [hHS] at KL hsz
  clear hHS
  obtain ⟨hs0, hs1⟩ := (hdOk_parts ho).1
  have hs2 := (hdOk_parts ho2).1.2
  have V0 := Lib.hid (svW_new h s e c st m 44)
  have hb0 := (save_new w s e c st m 44).1.bw
  have HD := Lib.hid (h.below hb0)
  have hD := dev_D h
  have HT := Lib.hid ht
  have HB := Lib.hid hb0
  clear ht h ho ho2 hb0
  go_enter Tryd.func18, Tryd.ntmps18
  go_wp2_with fail
  refine (KK.out _ HD.out).mono ?_
  rintro x w' ⟨rfl, rfl⟩
  clear KK
  obtain ⟨⟨q0, q1, q2, q3, q4⟩, qf⟩ := V0.out.q
  go_wp2_with fail
  refine (KR.out _).mono ?_
  rintro x w1 ⟨rfl, hb1⟩
  have V1 := Lib.hid (V0.out.fr3 (Dv.Fr3.of_below hb1))
  have D1 := Lib.hid (HD.out.below hb1)
  have B1 := Lib.hid (HB.out.trans (hb1.mono HB.out.size))
  clear hb1 KR V0 HD HB q0 q1 q2 q3 q4 qf
  obtain ⟨⟨q0, q1, q2, q3, q4⟩, qf⟩ := V1.out.q
  have V2 := Lib.hid (V1.out.seq (s + 1))
  have D2 := Lib.hid (svW_dev V1.out D1.out hD (s + 1))
  have T2 := Lib.hid (HT.out.below (B1.out.setCell V1.out.hQ (.int .i64 (s + 1)) (p := ⟨w.heap.size, 0, none⟩)))
  clear V1 D1 B1 HT
  go_upto_region 4 with fail
  generalize w1.setCell ⟨w.heap.size, 0, none⟩ (.int .i64 (s + 1)) = Y at *
  clear q0 q1 q2 q3 q4 qf
  obtain ⟨⟨q0, q1, q2, q3, q4⟩, _⟩ := V2.out.q
  go_wp2_with fail
  refine (KL.out _ T2.out).mono ?_
  rintro x w3 ⟨rfl, hb3⟩
  have V3 := Lib.hid (V2.out.fr3 (Dv.Fr3.of_below hb3))
  have D3 := Lib.hid (D2.out.below hb3)
  clear hb3 KL V2 D2 T2 q0 q1 q2 q3 q4
  obtain ⟨⟨q0, q1, q2, q3, q4⟩, _⟩ := V3.out.q
  have HSZ := Lib.hid hsz
  have hne : HS ≠ ⟨#[]⟩ := fun e => by rw [e] at hsz; exact absurd hsz (by decide)
  have hn1 := hba_neL hne
  have hn2 := hba_neL' hne
  have hn3 : HS.toList.isEmpty = false := by rw [List.isEmpty_eq_false_iff]; intro e; exact hn2 (by rw [e, ByteArray.toList_eq])
  clear hne hsz
  have hmod : 0 ≤ (s + 1).tmod 2 ∧ (s + 1).tmod 2 < 2 := by rw [Int.tmod_eq_emod_of_nonneg (by omega)]; omega
  obtain ⟨hm0, hm1⟩ := hmod
  go_upto_region 7 with fail
  have hby := (Below.refl w3.heap.size w3).alloc (Nat.le_refl _) (.cells #[.string HS] 9)
  have V4 := Lib.hid (V3.out.fr3 (Dv.Fr3.of_below hby))
  have D4 := Lib.hid (D3.out.below hby)
  have KW := Lib.hid (Dv.write_off D4.out ((i : Int) + (s + 1) % 2) (.slice (some ⟨w3.heap.size, 0, none⟩) 1 1))
  clear hby D3 V3
  go_wp2_with fail
  refine KW.out.mono ?_
  rintro x w5 ⟨rfl, rfl⟩
  clear KW q0 q1 q2 q3 q4
  obtain ⟨r0, r1, r2, r3, r4⟩ := V4.out.r
  have rf := V4.out.rf
  go_wp2
  obtain ⟨X, hX, ⟨x0, x1, x2, x3, x4⟩, hdX, hfX⟩ := svW_out V4.out D4.out hD (.int .i64 0) (.int .i64 0) (.int .i64 0) (.int .i64 0) (.int .i64 0)
  rw [hX]
  refine bodyPost_ret (v := .tuple #[.agg #[.int .i64 0, .int .i64 0, .int .i64 0, .int .i64 0, .int .i64 0], .int .i64 6]) ?_ rfl ⟨rfl, hfX⟩
  simp [results, Tryd.results18, go_sem, x0, x1, x2, x3, x4]
end
end Go.Proofs.YtpoagfldekppkaaDoor
