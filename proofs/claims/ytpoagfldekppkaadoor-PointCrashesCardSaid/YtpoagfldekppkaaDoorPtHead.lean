/-
  head.Save of a head that may not be, and of one whose next Seq may not be.
-/
import Derived.Test.YtpoagfldekppkaaDoorHdSaveB
namespace Go.Proofs.YtpoagfldekppkaaDoor
open Go.RowKit
section
variable {D P L M n k : Nat} {uses left : Int} {las : List (List UInt8)} {f : Int → Option (List UInt8)}
set_option maxRecDepth 100000 in
set_option maxHeartbeats 4000000 in
theorem save_bad (w : World) {off armed : Bool} (h : Dv.DevAt w D P L M n k off uses armed left las f) (i : Nat) (hi : i + 2 ≤ n) (hn : n ≤ 4096)
    (s e c st m : Int) (ho : hdOk s e c st m = false) :
    Calls Tryd.prog 18 #[.pointer (some ⟨D, 0, none⟩), .int .i64 i, .agg #[.int .i64 s, .int .i64 e, .int .i64 c, .int .i64 st, .int .i64 m]] w
      fun x w' => x = .returned (.tuple #[.agg #[.int .i64 0, .int .i64 0, .int .i64 0, .int .i64 0, .int .i64 0], .int .i64 1]) ∧ Below w.heap.size w w' := by
  have KK := Lib.hid (fun W (h : Dv.DevAt W D P L M n k off uses armed left las f) => kept_yes h (i : Int) ⟨by omega, by omega⟩ hn)
  have KR := Lib.hid (fun W => hright_any s e c st m W)
  rw [ho] at KR
  have Z0 := Lib.hid (save_new w s e c st m 44)
  have HD := Lib.hid (h.below Z0.out.1.bw)
  clear h ho
  go_enter Tryd.func18, Tryd.ntmps18
  go_wp2_with fail
  refine (KK.out _ HD.out).mono ?_
  rintro x w' ⟨rfl, rfl⟩
  clear KK
  obtain ⟨⟨q0, q1, q2, q3, q4⟩, qf⟩ := Z0.out.2
  go_wp2_with fail
  refine (KR.out _).mono ?_
  rintro x w1 ⟨rfl, hb1⟩
  have Z1 := Lib.hid (Z0.out.1.below hb1)
  clear hb1 KR Z0 HD q0 q1 q2 q3 q4 qf
  obtain ⟨⟨r0, r1, r2, r3, r4⟩, rf, bw, hR⟩ := Z1.out
  clear Z1
  go_wp2
  refine bodyPost_ret (v := .tuple #[.agg #[.int .i64 0, .int .i64 0, .int .i64 0, .int .i64 0, .int .i64 0], .int .i64 1]) ?_ rfl ⟨rfl, ((((bw.setCell hR _).setCell hR _).setCell hR _).setCell hR _).setCell hR _⟩
  simp [results, Tryd.results18, go_sem, r0, r1, r2, r3, r4]
set_option maxRecDepth 100000 in
set_option maxHeartbeats 4000000 in
theorem save_top (w : World) {off armed : Bool} (h : Dv.DevAt w D P L M n k off uses armed left las f) (i : Nat) (hi : i + 2 ≤ n) (hn : n ≤ 4096)
    (s e c st m : Int) (ho : hdOk s e c st m = true) (ho2 : hdOk (s + 1) e c st m = false) :
    Calls Tryd.prog 18 #[.pointer (some ⟨D, 0, none⟩), .int .i64 i, .agg #[.int .i64 s, .int .i64 e, .int .i64 c, .int .i64 st, .int .i64 m]] w
      fun x w' => x = .returned (.tuple #[.agg #[.int .i64 0, .int .i64 0, .int .i64 0, .int .i64 0, .int .i64 0], .int .i64 1]) ∧ Below w.heap.size w w' := by
  have KK := Lib.hid (fun W (h : Dv.DevAt W D P L M n k off uses armed left las f) => kept_yes h (i : Int) ⟨by omega, by omega⟩ hn)
  have KR := Lib.hid (fun W => hright_any s e c st m W)
  rw [ho] at KR
  have KL := Lib.hid (fun W => hlaid_bad (s + 1) e c st m W ho2)
  obtain ⟨hs0, hs1⟩ := (hdOk_parts ho).1
  have V0 := Lib.hid (svW_new h s e c st m 44)
  have hb0 := (save_new w s e c st m 44).1.bw
  have HD := Lib.hid (h.below hb0)
  have hD := dev_D h
  have HB := Lib.hid hb0
  clear h ho ho2 hb0
  go_enter Tryd.func18, Tryd.ntmps18
  go_wp2_with fail
  refine (KK.out _ HD.out).mono ?_
  rintro x w' ⟨rfl, rfl⟩
  clear KK
  obtain ⟨⟨q0, q1, q2, q3, q4⟩, qf⟩ := V0.out.q
  go_wp2_with fail
  refine (KR.out _).mono ?_
  rintro x w1 ⟨rfl, hb1⟩
  have V1 := Lib.hid (V0.out.fr3 (Dv.Fr3.of_below hb1))
  have B1 := Lib.hid (HB.out.trans (hb1.mono HB.out.size))
  clear hb1 KR V0 HD HB q0 q1 q2 q3 q4 qf
  obtain ⟨⟨q0, q1, q2, q3, q4⟩, qf⟩ := V1.out.q
  have V2 := Lib.hid (V1.out.seq (s + 1))
  have B2 := Lib.hid (B1.out.setCell V1.out.hQ (.int .i64 (s + 1)) (p := ⟨w.heap.size, 0, none⟩))
  clear V1 B1
  go_upto_region 4 with fail
  generalize w1.setCell ⟨w.heap.size, 0, none⟩ (.int .i64 (s + 1)) = Y at *
  clear q0 q1 q2 q3 q4 qf
  obtain ⟨⟨q0, q1, q2, q3, q4⟩, _⟩ := V2.out.q
  go_wp2_with fail
  refine (KL.out _).mono ?_
  rintro x w3 ⟨rfl, hb3⟩
  have V3 := Lib.hid (V2.out.fr3 (Dv.Fr3.of_below hb3))
  have B3 := Lib.hid (B2.out.trans (hb3.mono B2.out.size))
  clear hb3 KL V2 B2 q0 q1 q2 q3 q4
  obtain ⟨r0, r1, r2, r3, r4⟩ := V3.out.r
  have rf := V3.out.rf
  have bw := B3.out
  have hR := V3.out.hR
  clear V3
  go_wp2
  refine bodyPost_ret (v := .tuple #[.agg #[.int .i64 0, .int .i64 0, .int .i64 0, .int .i64 0, .int .i64 0], .int .i64 1]) ?_ rfl ⟨rfl, ((((bw.setCell hR _).setCell hR _).setCell hR _).setCell hR _).setCell hR _⟩
  simp [results, Tryd.results18, go_sem, r0, r1, r2, r3, r4]
end
end Go.Proofs.YtpoagfldekppkaaDoor
