/-
  THE CONTRACT OF pool's kept, of a page without cells.
-/
import Derived.Test.YtpkbopeddhgnlaaGreatDoorPlHeld
namespace Go.Proofs.YtpkbopeddhgnlaaGreatDoor
open Go.RowKit
set_option maxRecDepth 100000 in
set_option maxHeartbeats 2000000 in
theorem kept_none (no g : Int) (a : Option Addr) (c : Nat) (W : World) (hz : a = none ∨ ∃ b off, a = some ⟨b, off, none⟩) :
    Calls Tryz.prog 33 #[.agg #[.int .i64 no, .int .i64 g, .slice a 0 c]] W (OwnP W no g []) := by
  have hb1 := (Below.refl W.heap.size W).alloc (Nat.le_refl _) (.cells #[.int .i64 no, .int .i64 g, .slice a 0 c] 26)
  have hb2 := hb1.alloc hb1.size (.cells #[.int .i64 0, .int .i64 0, .slice none 0 0] 26)
  have hP := (Pg3.new W 26 no g (.slice a 0 c) []).below ((Below.refl _ _).alloc (Nat.le_refl _) (.cells #[.int .i64 0, .int .i64 0, .slice none 0 0] 26))
  have hR := Pg3.new (W.alloc (.cells #[.int .i64 no, .int .i64 g, .slice a 0 c] 26)) 26 0 0 (.slice none 0 0) []
  have hs1 : (W.alloc (.cells #[.int .i64 no, .int .i64 g, .slice a 0 c] 26)).heap.size = W.heap.size + 1 := by simp
  rw [hs1] at hR
  have KC := Lib.hid (fun (X : World) => own_any no g a [] c X (by simp) (.inl rfl) hz)
  clear hs1 hz
  go_enter Tryz.func33, Tryz.ntmps33
  go_upto_region 1 with fail
  generalize (W.alloc (.cells #[.int .i64 no, .int .i64 g, .slice a 0 c] 26)).alloc (.cells #[.int .i64 0, .int .i64 0, .slice none 0 0] 26) = X at *
  have KC1 : Hid (Calls Tryz.prog 27 #[.agg #[.int .i64 no, .int .i64 g, .slice a 0 c]] X (OwnP X no g [])) := KC.out X
  obtain ⟨p0, p1, p2, pf⟩ := hP
  have HX := Lib.hid (show W.heap.size + 1 < X.heap.size from hR.lt)
  have HR := Lib.hid hR
  have HB := Lib.hid hb2
  clear KC hR hb1 hb2
  go_wp2_with fail
  refine KC1.out.mono ?_
  rintro x w1 ⟨a', c', rfl, hrow, hbw⟩
  have hP1 : Pg3 w1 W.heap.size no g (.slice a 0 c) := (Pg3.mk p0 p1 p2 pf).below hbw
  have hR1 := HR.out.below hbw
  have HB1 := Lib.hid (HB.out.trans (hbw.mono HB.out.size))
  have hrow2 : RowC (((w1.setCell ⟨W.heap.size, 0, none⟩ (.int .i64 no)).setCell ⟨W.heap.size, 1, none⟩ (.int .i64 g)).setCell ⟨W.heap.size, 2, none⟩ (.slice a' 0 c')) X.heap.size (.slice a' 0 c') [] := by
    have hg := ((grown_cell w1 W.heap.size 0 (.int .i64 no)).trans (grown_cell _ W.heap.size 1 (.int .i64 g))).trans (grown_cell _ W.heap.size 2 (.slice a' 0 c'))
    exact World.ownsRow.kept hrow hg (by
      cases ho : (Value.slice a' 0 c').ownBlock with
      | none => exact .inl rfl
      | some k => exact .inr (fun e => by
          injection e with e
          have h1 := (World.ownsRow.lt hrow k ho).1
          have h2 := HX.out
          omega))
  have HP2 := Lib.hid (hP1.put no g (.slice a' 0 c'))
  have HR2 := Lib.hid (hR1.put3_other W.heap.size (.int .i64 no) (.int .i64 g) (.slice a' 0 c') (by omega))
  have HB3 := Lib.hid (((HB1.out.setCell (p := ⟨W.heap.size, 0, none⟩) (Nat.le_refl _) (.int .i64 no)).setCell (p := ⟨W.heap.size, 1, none⟩) (Nat.le_refl _) (.int .i64 g)).setCell (p := ⟨W.heap.size, 2, none⟩) (Nat.le_refl _) (.slice a' 0 c'))
  have HRW := Lib.hid hrow2
  obtain ⟨q0, q1, q2, qf⟩ := hP1
  clear hrow hbw HR HB KC1 HB1 hrow2 hR1 p0 p1 p2 pf
  go_upto_region 2 with fail
  generalize ((w1.setCell ⟨W.heap.size, 0, none⟩ (.int .i64 no)).setCell ⟨W.heap.size, 1, none⟩ (.int .i64 g)).setCell ⟨W.heap.size, 2, none⟩ (.slice a' 0 c') = Y at *
  obtain ⟨p0, p1, p2, pf⟩ := HP2.out
  obtain ⟨r0, r1, r2, rf⟩ := HR2.out
  clear q0 q1 q2 qf
  go_wp2
  go_loopw [10] (fun i wr => i = .int .i64 0 ∧ wr = Y) (fun _ _ => 0)
  case atStart => exact ⟨rfl, rfl⟩
  case round =>
    obtain ⟨rfl, rfl⟩ := hrel
    go_wp2
    obtain ⟨Z, hZ, x0, x1, x2, hbZ, hgZ⟩ := set3 (B := W.heap.size) (v0 := .int .i64 no) (v1 := .int .i64 g) (v2 := .slice a' 0 c') HB3.out (by omega) r0 r1 r2
    rw [← hZ]
    have hrz : RowC Z X.heap.size (.slice a' 0 c') [] := World.ownsRow.kept HRW.out hgZ (by
      cases ho : (Value.slice a' 0 c').ownBlock with
      | none => exact .inl rfl
      | some k => exact .inr (fun e => by
          injection e with e
          have h1 := (World.ownsRow.lt HRW.out k ho).1
          have h2 := HX.out
          omega))
    refine bodyPost_ret (v := .agg #[.int .i64 no, .int .i64 g, .slice a' 0 c']) ?_ rfl ⟨a', c', rfl, hrz.base (by have := HX.out; omega), hbZ⟩
    simp [results, Tryz.results33, go_sem, x0, x1, x2]
end Go.Proofs.YtpkbopeddhgnlaaGreatDoor
