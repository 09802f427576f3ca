/-
  HeadNone: the walk.
-/
import Derived.Test.YtkckkchdkflbjaaDoorHdAwake
namespace Go.Proofs.YtkckkchdkflbjaaDoor
open Go.RowKit
/-- The device that went off. -/
def DevOff (w : World) (D P L M : Nat) : Prop := ∃ las, Dv.DevAt w D P L M 2 0 true 1 true (-1) las (fun _ => none)
theorem none_new (w : World) : Calls Tryd.prog 8 #[.pointer none, .int .i64 2] w (Dv.NewPost w 2) := Dv.new_any 2 w (by omega) (by omega)
section
variable {D P L M : Nat}
theorem none_load {w : World} (h : DevOff w D P L M) : Calls Tryd.prog 6 #[.pointer (some ⟨D, 0, none⟩), .int .i64 0] w
      fun x w' => x = .returned (.tuple #[.agg #[.int .i64 0, .int .i64 0, .int .i64 0, .int .i64 0, .int .i64 0], .int .i64 6]) ∧ Below w.heap.size w w' := by
  obtain ⟨las, hd⟩ := h
  exact load_off w hd 0 (by omega) (by omega)
theorem none_save {w : World} (h : DevOff w D P L M) (ht : Tab w) : Calls Tryd.prog 7 #[.pointer (some ⟨D, 0, none⟩), .int .i64 0, .agg #[.int .i64 0, .int .i64 0, .int .i64 0, .int .i64 0, .int .i64 0]] w
      fun x w' => x = .returned (.tuple #[.agg #[.int .i64 0, .int .i64 0, .int .i64 0, .int .i64 0, .int .i64 0], .int .i64 6]) ∧ Dv.Fr3 P L M w w' := by
  obtain ⟨las, hd⟩ := h
  exact save_off w hd 0 (by omega) (by omega) ht 0 0 0 0 0 ok_zero ok_one
theorem none_sync {w : World} {las : List (List UInt8)} (h : Dv.DevAt w D P L M 2 0 false 0 true 0 las (fun _ => none)) :
    Calls Tryd.prog 10 #[.pointer (some ⟨D, 0, none⟩)] w fun x w' => x = .returned (.int .i64 6) ∧ DevOff w' D P L M ∧ Dv.Fr3 P L M w w' := by
  refine (Dv.sync_last h (by omega)).mono ?_
  rintro x w' ⟨rfl, hd, hf⟩
  exact ⟨rfl, ⟨_, hd⟩, hf⟩
theorem DevOff.below {w W : World} (h : DevOff w D P L M) (hb : Below w.heap.size w W) : DevOff W D P L M := by
  obtain ⟨las, hd⟩ := h
  exact ⟨las, hd.below hb⟩
end
/-- What stays. -/
structure NnW (w W : World) : Prop where
  t : Tab W
  bw : Below w.heap.size w W
theorem NnW.below {w W X : World} (h : NnW w W) (hb : Below W.heap.size W X) : NnW w X := ⟨h.t.below hb, h.bw.trans (hb.mono h.bw.size)⟩
theorem NnW.fr3 {w W X Y : World} {L M : Nat} (h : NnW w W) (ht : Tab w) (hf : Dv.Fr3 Y.heap.size L M W X) (hY : w.heap.size ≤ Y.heap.size) (hL : Y.heap.size ≤ L ∧ Y.heap.size ≤ M) : NnW w X := by
  have hg := tab_lt ht
  have hb : Below w.heap.size W X := hf.below h.bw.size hY (by omega) (by omega)
  have hb2 := h.bw.trans hb
  exact ⟨ht.below hb2, hb2⟩
set_option maxRecDepth 100000 in
set_option maxHeartbeats 4000000 in
theorem headNone_walk (i s e c st m : Int) (w : World) (hi : -9223372036854775808 ≤ i ∧ i ≤ 9223372036854775807) (ht : Tab w) :
    Calls Tryd.prog 3 #[.int .i64 i, .agg #[.int .i64 s, .int .i64 e, .int .i64 c, .int .i64 st, .int .i64 m]] w fun x w' => x = .returned (.bool true) ∧ Below w.heap.size w w' := by
  have KA := Lib.hid awake7_any
  have KL := Lib.hid (fun W => load_nil i W hi)
  have KS := Lib.hid (fun W => save_nil i s e c st m W hi)
  have KN := Lib.hid none_new
  have KB := Lib.hid (fun W D P L M (h : Dv.DevAt W D P L M 2 0 false 0 false 0 (List.replicate 2 Dv.blank64) (fun _ => none)) => Dv.arm_zero h)
  have KY := Lib.hid (fun W D P L M (h : Dv.DevAt W D P L M 2 0 false 0 true 0 (List.replicate 2 Dv.blank64) (fun _ => none)) => none_sync h)
  have KO := Lib.hid (fun W D P L M (h : DevOff W D P L M) => none_load h)
  have KT := Lib.hid (fun W D P L M (h : DevOff W D P L M) hT => none_save h hT)
  have N0 : Hid (NnW w w) := ⟨ht, Below.refl _ _⟩
  have N1 := Lib.hid (N0.out.below ((Below.refl w.heap.size w).alloc (Nat.le_refl _) (.cells #[.int .i64 s, .int .i64 e, .int .i64 c, .int .i64 st, .int .i64 m] 23)))
  have C1 := Lib.hid (C5.new w (.int .i64 s) (.int .i64 e) (.int .i64 c) (.int .i64 st) (.int .i64 m) 23)
  have HT := Lib.hid ht
  clear ht N0
  go_enter Tryd.func3, Tryd.ntmps3
  go_wp2_with fail
  refine (KA.out _ N1.out.t).mono ?_
  rintro x w1 ⟨rfl, hb1⟩
  have N2 := Lib.hid (N1.out.below hb1)
  have C2 := Lib.hid (C1.out.below hb1)
  clear hb1 N1 C1 KA
  go_wp2_with fail
  refine (KL.out _).mono ?_
  rintro x w2 ⟨rfl, hb2⟩
  have hba := (Below.refl w2.heap.size w2).alloc (Nat.le_refl _) (.cells #[.int .i64 0, .int .i64 0, .int .i64 0, .int .i64 0, .int .i64 0] 25)
  have N3 := Lib.hid ((N2.out.below hb2).below hba)
  obtain ⟨q0, q1, q2, q3, q4⟩ := (C2.out.below hb2).below hba
  clear hb2 hba N2 C2 KL
  go_upto_region 4 with fail
  generalize w2.alloc (.cells #[.int .i64 0, .int .i64 0, .int .i64 0, .int .i64 0, .int .i64 0] 25) = Y2 at *
  go_wp2_with fail
  refine (KS.out _).mono ?_
  rintro x w3 ⟨rfl, hb3⟩
  have hba := (Below.refl w3.heap.size w3).alloc (Nat.le_refl _) (.cells #[.int .i64 0, .int .i64 0, .int .i64 0, .int .i64 0, .int .i64 0] 25)
  have N4 := Lib.hid ((N3.out.below hb3).below hba)
  clear hb3 hba N3 KS q0 q1 q2 q3 q4
  go_upto_region 5 with fail
  generalize w3.alloc (.cells #[.int .i64 0, .int .i64 0, .int .i64 0, .int .i64 0, .int .i64 0] 25) = Y at *
  go_wp2_with fail
  refine (KN.out _).mono ?_
  rintro x w4 ⟨rfl, hd4, hb4⟩
  have N5 := Lib.hid (N4.out.below hb4)
  have HY := Lib.hid N4.out.bw.size
  have D5 := Lib.hid hd4
  clear hd4 hb4 N4 KN
  go_wp2_with fail
  refine (KB.out _ _ _ _ _ D5.out).mono ?_
  rintro x w5 ⟨rfl, hd5, hf5⟩
  have N6 := Lib.hid (N5.out.fr3 HT.out hf5 HY.out ⟨by omega, by omega⟩)
  have D6 := Lib.hid hd5
  clear hd5 hf5 N5 D5 KB
  go_wp2_with fail
  refine (KY.out _ _ _ _ _ D6.out).mono ?_
  rintro x w6 ⟨rfl, hd6, hf6⟩
  have N7 := Lib.hid (N6.out.fr3 HT.out hf6 HY.out ⟨by omega, by omega⟩)
  have D7 := Lib.hid hd6
  clear hd6 hf6 N6 D6 KY
  go_wp2_with fail
  refine (KO.out _ _ _ _ _ D7.out).mono ?_
  rintro x w7 ⟨rfl, hb7⟩
  have hba := (Below.refl w7.heap.size w7).alloc (Nat.le_refl _) (.cells #[.int .i64 0, .int .i64 0, .int .i64 0, .int .i64 0, .int .i64 0] 25)
  have N8 := Lib.hid ((N7.out.below hb7).below hba)
  have D8 := Lib.hid ((D7.out.below hb7).below hba)
  clear hb7 hba N7 D7 KO
  go_upto_region 9 with fail
  generalize w7.alloc (.cells #[.int .i64 0, .int .i64 0, .int .i64 0, .int .i64 0, .int .i64 0] 25) = Y7 at *
  go_wp2_with fail
  refine (KT.out _ _ _ _ _ D8.out N8.out.t).mono ?_
  rintro x w8 ⟨rfl, hf8⟩
  have N9 := Lib.hid ((N8.out.fr3 HT.out hf8 HY.out ⟨by omega, by omega⟩).below ((Below.refl w8.heap.size w8).alloc (Nat.le_refl _) (.cells #[.int .i64 0, .int .i64 0, .int .i64 0, .int .i64 0, .int .i64 0] 25)))
  clear hf8 N8 D8 KT HY
  go_upto_region 10 with fail
  generalize w8.alloc (.cells #[.int .i64 0, .int .i64 0, .int .i64 0, .int .i64 0, .int .i64 0] 25) = Y8 at *
  go_wp2
  exact bodyPost_ret (v := .bool true) (by simp [results, Tryd.results3, go_sem]) rfl ⟨rfl, N9.out.bw⟩
end Go.Proofs.YtkckkchdkflbjaaDoor
