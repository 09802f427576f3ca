/-
  THE CONTRACT OF awake of law 07: the document's example.
-/
import Derived.Test.YthlhjpcclfhklaaDoorHdSave
import Derived.Test.YthlhjpcclfhklaaDoorHdLoadOff
import Derived.Test.YthlhjpcclfhklaaDoorHdBack
namespace Go.Proofs.YthlhjpcclfhklaaDoor
open Go.RowKit
section
variable {D P L M : Nat} {las : List (List UInt8)}
theorem ok_zero : hdOk 0 0 0 0 0 = true := by decide
theorem ok_one : hdOk 1 0 0 0 0 = true := by decide
def hd1 : ByteArray := hdStr 1 0 0 0 0
theorem hd1_size : hd1.size = 64 := hdStr_size ok_one
/-- The device behind the first Save. -/
def Dev1 (w : World) (D P L M : Nat) : Prop := ∃ las2, Dv.DevAt w D P L M 2 1 false 2 false 0 las2 (fun _ => none) ∧ las2.getD 0 Dv.blank64 = Dv.blank64 ∧ las2.getD 1 Dv.blank64 = hd1.data.toList
theorem awake_save {w : World} (h : Dv.DevAt w D P L M 2 0 false 0 false 0 (List.replicate 2 Dv.blank64) (fun _ => none)) (ht : Tab w) :
    Calls Tryd.prog 6 #[.pointer (some ⟨D, 0, none⟩), .int .i64 0, .agg #[.int .i64 0, .int .i64 0, .int .i64 0, .int .i64 0, .int .i64 0]] w
      fun x w' => x = .returned (.tuple #[.agg #[.int .i64 1, .int .i64 0, .int .i64 0, .int .i64 0, .int .i64 0], .int .i64 0]) ∧ Dev1 w' D P L M ∧ Dv.Fr3 P L M w w' := by
  refine (save_any w h (by omega) (by omega) 0 (by omega) (by omega) (fun z l e => by cases e) ht 0 0 0 0 0 ok_zero ok_one).mono ?_
  rintro x w' ⟨rfl, las2, hd, hl, hf⟩
  refine ⟨rfl, ⟨las2, hd, ?_, ?_⟩, hf⟩
  · rw [hl 0 (by omega)]; rfl
  · rw [hl 1 (by omega)]; rfl
theorem awake_read {w : World} (h : Dev1 w D P L M) :
    Calls Tryd.prog 11 #[.pointer (some ⟨D, 0, none⟩), .int .i64 1] w fun e w' => e = .returned (.tuple #[.string hd1, .int .i64 0]) ∧ Below w.heap.size w w' := by
  obtain ⟨las2, hd, _, h1⟩ := h
  have := Dv.read_any hd 1 (by omega) (by omega) (fun l e => by cases e)
  rw [show Dv.secAt las2 (fun _ => none) 1 = hd1.data.toList from h1] at this
  exact this
theorem awake_load {w : World} (h : Dev1 w D P L M) (ht : Tab w) :
    Calls Tryd.prog 10 #[.pointer (some ⟨D, 0, none⟩), .int .i64 0] w
      fun x w' => x = .returned (.tuple #[.agg #[.int .i64 1, .int .i64 0, .int .i64 0, .int .i64 0, .int .i64 0], .int .i64 0]) ∧ Below w.heap.size w w' := by
  obtain ⟨las2, hd, h0, h1⟩ := h
  have e0 : ldSec las2 (fun _ => none) 0 0 = zero64 := by
    unfold ldSec
    rw [show Dv.secAt las2 (fun _ => none) (0 + 0) = Dv.blank64 from h0]
    rfl
  have e1 : ldSec las2 (fun _ => none) 0 1 = hd1 := by
    unfold ldSec
    rw [show Dv.secAt las2 (fun _ => none) (0 + 1) = hd1.data.toList from h1]
    rfl
  have r1 : readHd hd1 = some (1, 0, 0, 0, 0) := readHd_hdStr ok_one
  have hl : ldFrom (ldSec las2 (fun _ => none) 0) 0 (z5, false, true) = ((1, 0, 0, 0, 0), 0) := by
    show ldEnd (ldStep 1 (ldStep 0 (z5, false, true) (ldSec las2 (fun _ => none) 0 0)) (ldSec las2 (fun _ => none) 0 1)) = _
    rw [e0, e1]
    unfold ldStep
    rw [readHd_zero, r1]
    rfl
  have := load_any w hd 0 (by omega) (by omega) (fun z l e => by cases e) ht
  rw [hl] at this
  exact this
theorem Dev1.below {w W : World} (h : Dev1 w D P L M) (hb : Below w.heap.size w W) : Dev1 W D P L M := by
  obtain ⟨las2, hd, h0, h1⟩ := h
  exact ⟨las2, hd.below hb, h0, h1⟩
end
theorem tab_lt {w : World} (h : Tab w) : 2 < w.heap.size := blk_of (h 0 (by omega))
/-- awake's walk behind its Save. -/
structure AwW (w W : World) (D P L M Q : Nat) : Prop where
  d : Dev1 W D P L M
  t : Tab W
  bw : Below w.heap.size w W
  q : C5 W Q (.int .i64 1) (.int .i64 0) (.int .i64 0) (.int .i64 0) (.int .i64 0)
theorem AwW.below {w W X : World} {D P L M Q : Nat} (h : AwW w W D P L M Q) (hb : Below W.heap.size W X) : AwW w X D P L M Q := ⟨h.d.below hb, h.t.below hb, h.bw.trans (hb.mono h.bw.size), h.q.below hb⟩
theorem awW_new {w w1 w2 : World} {D L M : Nat} (hb : Below w.heap.size w w1) (ht : Tab w) (hs : w.heap.size ≤ L ∧ w.heap.size ≤ M) (hd : Dev1 w2 D w.heap.size L M) (hf : Dv.Fr3 w.heap.size L M w1 w2) (T : TypeId) :
    AwW w (w2.alloc (.cells #[.int .i64 1, .int .i64 0, .int .i64 0, .int .i64 0, .int .i64 0] T)) D w.heap.size L M w2.heap.size := by
  have hg := tab_lt ht
  obtain ⟨hL, hM⟩ := hs
  have hb2 : Below w.heap.size w w2 := hb.trans (hf.below hb.size (Nat.le_refl _) hL hM)
  have ha : Below w2.heap.size w2 (w2.alloc (.cells #[.int .i64 1, .int .i64 0, .int .i64 0, .int .i64 0, .int .i64 0] T)) := (Below.refl _ _).alloc (Nat.le_refl _) _
  exact ⟨hd.below ha, (ht.below hb2).below ha, hb2.trans (ha.mono hb2.size), C5.new _ _ _ _ _ _ T⟩
set_option maxRecDepth 100000 in
set_option maxHeartbeats 4000000 in
theorem awake7_any (w : World) (ht : Tab w) : Calls Tryd.prog 4 #[] w fun x w' => x = .returned (.bool true) ∧ Below w.heap.size w w' := by
  have KN := Lib.hid (fun W => Dv.new_any 2 W (by omega) (by omega))
  have KS := Lib.hid (fun W D P L M (h : Dv.DevAt W D P L M 2 0 false 0 false 0 (List.replicate 2 Dv.blank64) (fun _ => none)) hT => awake_save h hT)
  have KR := Lib.hid (fun W D P L M (h : Dev1 W D P L M) => awake_read h)
  have KL := Lib.hid (fun W D P L M (h : Dev1 W D P L M) hT => awake_load h hT)
  have KA := Lib.hid (fun W hT => hlaid_any 1 0 0 0 0 W ok_one hT)
  rw [show hdStr 1 0 0 0 0 = hd1 from rfl] at KA
  have hsz : (hd1.size : Int) = 64 := by rw [hd1_size]; rfl
  have HT := Lib.hid ht
  clear ht
  go_enter Tryd.func4, Tryd.ntmps4
  go_wp2_with fail
  refine (KN.out _).mono ?_
  rintro x w1 ⟨rfl, hd, hb1⟩
  have D1 := Lib.hid hd
  have B1 := Lib.hid hb1
  clear hd hb1 KN
  go_wp2_with fail
  refine (KS.out _ _ _ _ _ D1.out (HT.out.below B1.out)).mono ?_
  rintro x w2 ⟨rfl, hd2, hf2⟩
  have A2 := Lib.hid (awW_new B1.out HT.out ⟨by omega, by omega⟩ hd2 hf2 28)
  clear hd2 hf2 D1 B1 KS
  go_wp2_with fail
  refine (KR.out _ _ _ _ _ A2.out.d).mono ?_
  rintro x w3 ⟨rfl, hb3⟩
  have A3 := Lib.hid (A2.out.below hb3)
  clear hb3 A2 KR
  go_wp2_with fail
  refine (KL.out _ _ _ _ _ A3.out.d A3.out.t).mono ?_
  rintro x w4 ⟨rfl, hb4⟩
  have A4 := Lib.hid ((A3.out.below hb4).below ((Below.refl w4.heap.size w4).alloc (Nat.le_refl _) (.cells #[.int .i64 1, .int .i64 0, .int .i64 0, .int .i64 0, .int .i64 0] 28)))
  have G4 := Lib.hid (C5.new w4 (.int .i64 1) (.int .i64 0) (.int .i64 0) (.int .i64 0) (.int .i64 0) 28)
  clear hb4 A3 KL
  go_upto_region 5 with fail
  generalize w4.alloc (.cells #[.int .i64 1, .int .i64 0, .int .i64 0, .int .i64 0, .int .i64 0] 28) = Y at *
  obtain ⟨q0, q1, q2, q3, q4⟩ := A4.out.q
  go_wp2_with fail
  refine (KA.out _ A4.out.t).mono ?_
  rintro x w6 ⟨rfl, hb6⟩
  have A6 := Lib.hid (A4.out.below hb6)
  obtain ⟨g0, g1, g2, g3, g4⟩ := G4.out.below hb6
  clear hb6 A4 G4 KA q0 q1 q2 q3 q4
  obtain ⟨q0, q1, q2, q3, q4⟩ := A6.out.q
  go_wp2
  exact bodyPost_ret (v := .bool true) (by simp [results, Tryd.results4, go_sem]) rfl ⟨rfl, A6.out.bw⟩
end Go.Proofs.YthlhjpcclfhklaaDoor
