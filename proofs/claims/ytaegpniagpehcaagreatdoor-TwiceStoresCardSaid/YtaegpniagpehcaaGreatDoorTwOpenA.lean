/-
  THE CONTRACT OF twice's mend, where it writes nothing.
-/
import Derived.Test.YtaegpniagpehcaaGreatDoorTwFmt
import Derived.Test.YtaegpniagpehcaaGreatDoorTwStoreL
namespace Go.Proofs.YtaegpniagpehcaaGreatDoor
open Go.RowKit
/-- What Open answers of a device, and leaves of it. -/
def openM (pages : Nat) (s : Ds) : Int × Ds :=
  match s.pm with
  | .off => (6, s)
  | _ => if allZ (Dv.txt (vw s 0)) = true then (0, s) else
    match takeOf (Dv.txt (vw s 0)) 1 with
    | none => (9, s)
    | some (k, r) => if k < 1 ∨ pages < k ∨ allZ r = false then (9, s) else
      match readOf (txt4 (vw s) 1) with
      | none => (9, s)
      | some (no, _, _) => if no + 1 = k then (er (settleM no (txt4 (vw s) 1) s).1, (settleM no (txt4 (vw s) 1) s).2) else (9, s)
section
variable {w W : World} {D P L M n B T pages : Nat} {s : Ds}
theorem txt_len {l : List UInt8} (h : l.length = 64) : (Dv.txt l).size = 64 := by unfold Dv.txt; simpa [ByteArray.size] using h
theorem take1 {t : ByteArray} (h : t.size = 64) : ∃ k, k < 256 ∧ takeOf t 1 = some (k, t.extract 1 64) := by
  have hl : t.data.toList.length = 64 := by rw [Dv.ba_len]; exact h
  have hb : beVal (t.data.toList.take 1) < 256 := by
    have := beVal_lt (t.data.toList.take 1)
    rw [List.length_take, hl, show min 1 64 = 1 from rfl] at this
    simpa using this
  refine ⟨beVal (t.data.toList.take 1), hb, ?_⟩
  unfold takeOf
  rw [if_pos ⟨by omega, by omega, by rw [h]; decide, by rw [show (1 : Int).toNat = 1 from rfl]; omega⟩, h]
  rfl
theorem mend_off (h : TwS w W D P L M n B T pages s) (ho : s.pm = .off) (hn : n ≤ 4096) (h1 : 1 ≤ n) :
    Calls Tryz.prog 35 #[.pointer (some ⟨T, 0, none⟩)] W fun x w' => x = .returned (.int .i64 6) ∧ Below W.heap.size W w' := by
  have KR := Lib.hid (read_s h.d 0 (by omega) hn)
  rw [rdV_off ho, show ((0 : Nat) : Int) = 0 from rfl] at KR
  have t0 := h.t0
  clear h
  go_enter Tryz.func35, Tryz.ntmps35
  go_wp2_with fail
  refine KR.out.mono ?_
  rintro x w1 ⟨rfl, hb1⟩
  go_wp2
  go_ret
  exact ⟨rfl, hb1⟩
theorem mend_blank (h : TwS w W D P L M n B T pages s) (hon : s.pm ≠ .off) (hn : n ≤ 4096) (h1 : 1 ≤ n) (hz : allZ (Dv.txt (vw s 0)) = true) :
    Calls Tryz.prog 35 #[.pointer (some ⟨T, 0, none⟩)] W fun x w' => x = .returned (.int .i64 0) ∧ Below W.heap.size W w' := by
  have KR := Lib.hid (read_s h.d 0 (by omega) hn)
  rw [rdV_on hon, show ((0 : Nat) : Int) = 0 from rfl] at KR
  have hs := txt_len (h.d.vlen 0 (by omega))
  have t0 := h.t0
  clear h
  generalize Dv.txt (vw s 0) = t at *
  have KB := Lib.hid (fun W => blank_any t (by omega) W)
  rw [hz] at KB
  clear hz hs
  go_enter Tryz.func35, Tryz.ntmps35
  go_wp2_with fail
  refine KR.out.mono ?_
  rintro x w1 ⟨rfl, hb1⟩
  go_wp2_with fail
  refine (KB.out _).mono ?_
  rintro x w2 ⟨rfl, hb2⟩
  have hb3 := hb1.trans (hb2.mono hb1.size)
  clear hb1 hb2 KR KB
  go_wp2
  go_ret
  exact ⟨rfl, hb3⟩
set_option maxRecDepth 100000 in
set_option maxHeartbeats 4000000 in
/-- A note of no page. -/
theorem mend_bad (h : TwS w W D P L M n B T pages s) (hon : s.pm ≠ .off) (hn : n ≤ 4096) (h1 : 1 ≤ n) (hz : allZ (Dv.txt (vw s 0)) = false) (k : Nat) (r : ByteArray) (ht : takeOf (Dv.txt (vw s 0)) 1 = some (k, r)) (hr : r.size ≤ 64) (hk : k < 256) (hbad : k < 1 ∨ pages < k ∨ allZ r = false) :
    Calls Tryz.prog 35 #[.pointer (some ⟨T, 0, none⟩)] W fun x w' => x = .returned (.int .i64 9) ∧ Below W.heap.size W w' := by
  have KR := Lib.hid (read_s h.d 0 (by omega) hn)
  rw [rdV_on hon, show ((0 : Nat) : Int) = 0 from rfl] at KR
  have hs := txt_len (h.d.vlen 0 (by omega))
  have t0 := h.t0
  have t1 := h.t1
  clear h
  generalize Dv.txt (vw s 0) = t at *
  have KB := Lib.hid (fun W => blank_any t (by omega) W)
  have KT := Lib.hid (fun W => take_any t 1 W (by omega) (by omega))
  rw [take_val_some ht] at KT
  have KZ := Lib.hid (fun W => blank_any r (by omega) W)
  rw [hz] at KB
  clear hz hs ht
  by_cases h0 : k < 1
  · have k1 : (k : Int) < 1 := by omega
    clear hbad KZ
    go_enter Tryz.func35, Tryz.ntmps35
    go_wp2_with fail
    refine KR.out.mono ?_
    rintro x w1 ⟨rfl, hb1⟩
    go_wp2_with fail
    refine (KB.out _).mono ?_
    rintro x w2 ⟨rfl, hb2⟩
    have hb3 := hb1.trans (hb2.mono hb1.size)
    clear hb1 hb2 KR KB t0 t1
    go_wp2_with fail
    refine (KT.out _).mono ?_
    rintro x w4 ⟨rfl, hb4⟩
    have hb6 := hb3.trans (hb4.mono hb3.size)
    clear hb3 hb4
    go_wp2
    go_ret
    exact ⟨rfl, hb6⟩
  · have k0 : (1 : Int) ≤ (k : Int) := by omega
    by_cases h2 : pages < k
    · have k1 : (pages : Int) < (k : Int) := by omega
      clear hbad KZ
      go_enter Tryz.func35, Tryz.ntmps35
      go_wp2_with fail
      refine KR.out.mono ?_
      rintro x w1 ⟨rfl, hb1⟩
      go_wp2_with fail
      refine (KB.out _).mono ?_
      rintro x w2 ⟨rfl, hb2⟩
      have hb3 := hb1.trans (hb2.mono hb1.size)
      have u1 := Dv.keep_cell hb2 (Dv.keep_cell hb1 t1)
      clear hb1 hb2 KR KB t0 t1
      go_wp2_with fail
      refine (KT.out _).mono ?_
      rintro x w4 ⟨rfl, hb4⟩
      have hb6 := hb3.trans (hb4.mono hb3.size)
      have u2 := Dv.keep_cell hb4 u1
      clear hb3 hb4 u1
      go_wp2
      go_ret
      exact ⟨rfl, hb6⟩
    · have k1 : (k : Int) ≤ (pages : Int) := by omega
      have hzr : allZ r = false := by
        rcases hbad with e | e | e
        · omega
        · omega
        · exact e
      rw [hzr] at KZ
      clear hbad hzr
      go_enter Tryz.func35, Tryz.ntmps35
      go_wp2_with fail
      refine KR.out.mono ?_
      rintro x w1 ⟨rfl, hb1⟩
      go_wp2_with fail
      refine (KB.out _).mono ?_
      rintro x w2 ⟨rfl, hb2⟩
      have hb3 := hb1.trans (hb2.mono hb1.size)
      have u1 := Dv.keep_cell hb2 (Dv.keep_cell hb1 t1)
      clear hb1 hb2 KR KB t0 t1
      go_wp2_with fail
      refine (KT.out _).mono ?_
      rintro x w4 ⟨rfl, hb4⟩
      have hb45 := hb3.trans (hb4.mono hb3.size)
      have u2 := Dv.keep_cell hb4 u1
      clear hb3 hb4 u1
      go_wp2_with fail
      refine (KZ.out _).mono ?_
      rintro x w5 ⟨rfl, hb5⟩
      have hb6 := hb45.trans (hb5.mono hb45.size)
      clear hb5 hb45 KZ u2
      go_wp2
      go_ret
      exact ⟨rfl, hb6⟩
end
end Go.Proofs.YtaegpniagpehcaaGreatDoor
