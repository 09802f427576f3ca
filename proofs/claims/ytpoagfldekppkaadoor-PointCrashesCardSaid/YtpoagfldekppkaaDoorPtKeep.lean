/-
  THE CONTRACTS of a master's Keep.
-/
import Derived.Test.YtpoagfldekppkaaDoorPtOpen
namespace Go.Proofs.YtpoagfldekppkaaDoor
open Go.RowKit
section
variable {W : World} {A P L M : Nat} {da : Option Addr} {lo nx sq : Int}
set_option maxRecDepth 100000 in
theorem keep_nil (pl pn : Int) (W : World) :
    Calls Tryd.prog 14 #[.pointer none, .agg #[.int .i64 pl, .int .i64 pn]] W fun x w' => x = .returned (.int .i64 1) ∧ Below W.heap.size W w' := by
  have HB := Lib.hid ((Below.refl W.heap.size W).alloc (Nat.le_refl _) (.cells #[.int .i64 pl, .int .i64 pn] 34))
  go_enter Tryd.func14, Tryd.ntmps14
  go_upto_region 1 with fail
  generalize W.alloc (.cells #[.int .i64 pl, .int .i64 pn] 34) = Y at *
  go_quiet (fail)
  have HB3 := Lib.hid (below_drewN HB.out)
  go_wp2
  go_ret
  exact ⟨rfl, HB3.out _⟩
set_option maxRecDepth 100000 in
set_option maxHeartbeats 1000000 in
theorem keep_low (h : MsAt W A lo nx da sq) (pl pn : Int) (hl : pl < lo ∨ pn < nx) :
    Calls Tryd.prog 14 #[.pointer (some ⟨A, 0, none⟩), .agg #[.int .i64 pl, .int .i64 pn]] W fun x w' => x = .returned (.int .i64 1) ∧ Below W.heap.size W w' := by
  have HB := Lib.hid ((Below.refl W.heap.size W).alloc (Nat.le_refl _) (.cells #[.int .i64 pl, .int .i64 pn] 34))
  have HM := Lib.hid (h.below HB.out)
  have e0 : (W.alloc (.cells #[.int .i64 pl, .int .i64 pn] 34)).cell? ⟨W.heap.size, 0, none⟩ = some (.int .i64 pl) := new_h rfl rfl
  have e1 : (W.alloc (.cells #[.int .i64 pl, .int .i64 pn] 34)).cell? ⟨W.heap.size, 1, none⟩ = some (.int .i64 pn) := new_h rfl rfl
  clear h
  go_enter Tryd.func14, Tryd.ntmps14
  go_upto_region 1 with fail
  have hYs : (W.alloc (.cells #[.int .i64 pl, .int .i64 pn] 34)).heap.size = W.heap.size + 1 := World.size_alloc _ _
  have hYq : W.heap.size < (W.alloc (.cells #[.int .i64 pl, .int .i64 pn] 34)).heap.size := by omega
  clear hYs
  generalize W.alloc (.cells #[.int .i64 pl, .int .i64 pn] 34) = Y at *
  obtain ⟨c0, c1, c2, c3, fz⟩ := HM.out
  by_cases h1 : pl < lo
  · have hd : decide (pl < lo) = true := by simpa using h1
    clear hl
    go_quiet (fail)
    have HB3 := Lib.hid (below_drewN HB.out)
    go_wp2
    go_ret
    exact ⟨rfl, HB3.out _⟩
  · have hd : decide (pl < lo) = false := by simpa using h1
    have h2 : pn < nx := by omega
    have hd2 : decide (pn < nx) = true := by simpa using h2
    clear hl
    go_quiet (fail)
    have HB3 := Lib.hid (below_drewN HB.out)
    go_wp2
    go_ret
    exact ⟨rfl, HB3.out _⟩
set_option maxRecDepth 100000 in
set_option maxHeartbeats 1000000 in
theorem keep_same (h : MsAt W A lo nx da sq) :
    Calls Tryd.prog 14 #[.pointer (some ⟨A, 0, none⟩), .agg #[.int .i64 lo, .int .i64 nx]] W fun x w' => x = .returned (.int .i64 0) ∧ Below W.heap.size W w' := by
  have HB := Lib.hid ((Below.refl W.heap.size W).alloc (Nat.le_refl _) (.cells #[.int .i64 lo, .int .i64 nx] 34))
  have HM := Lib.hid (h.below HB.out)
  have e0 : (W.alloc (.cells #[.int .i64 lo, .int .i64 nx] 34)).cell? ⟨W.heap.size, 0, none⟩ = some (.int .i64 lo) := new_h rfl rfl
  have e1 : (W.alloc (.cells #[.int .i64 lo, .int .i64 nx] 34)).cell? ⟨W.heap.size, 1, none⟩ = some (.int .i64 nx) := new_h rfl rfl
  clear h
  go_enter Tryd.func14, Tryd.ntmps14
  go_upto_region 1 with fail
  have hYs : (W.alloc (.cells #[.int .i64 lo, .int .i64 nx] 34)).heap.size = W.heap.size + 1 := World.size_alloc _ _
  have hYq : W.heap.size < (W.alloc (.cells #[.int .i64 lo, .int .i64 nx] 34)).heap.size := by omega
  clear hYs
  generalize W.alloc (.cells #[.int .i64 lo, .int .i64 nx] 34) = Y at *
  obtain ⟨c0, c1, c2, c3, fz⟩ := HM.out
  have hd : decide (lo < lo) = false := by simp
  have hd2 : decide (nx < nx) = false := by simp
  go_quiet (fail)
  rename_i nq
  have HB3 := Lib.hid (below_drewN HB.out nq)
  have HM3 : Hid (MsAt (Y.drewN nq) A lo nx da sq) := HM.out.below (below_drewN (Below.refl _ _) nq)
  have f0 : (Y.drewN nq).cell? ⟨W.heap.size, 0, none⟩ = some (.int .i64 lo) := e0
  have f1 : (Y.drewN nq).cell? ⟨W.heap.size, 1, none⟩ = some (.int .i64 nx) := e1
  have hYq2 : W.heap.size < (Y.drewN nq).heap.size := hYq
  clear hYq c0 c1 c2 c3 fz e0 e1 HM HB
  generalize Y.drewN nq = Z at *
  go_wp2_with fail
  have KP := Lib.hid (fun X (hX : Below Z.heap.size Z X) => point_any (HM3.out.below hX))
  go_region_held3 (fun w' => w'.cell? ⟨W.heap.size, 0, none⟩ = some (.int .i64 lo) ∧ w'.cell? ⟨W.heap.size, 1, none⟩ = some (.int .i64 nx)) (go_keep)
    (first | (go_at_call 11; (with_reducible refine (KP.out _ (Below.refl _ _).drew).mono ?_); rintro x w2 ⟨rfl, hb2⟩; have hb3 := (Below.refl Z.heap.size Z).drew.trans hb2; have g0 := keep_h hb3 f0; have g1 := keep_h hb3 f1))
  all_goals
    have HE := Lib.hid (HB3.out.trans (hb3.mono HB3.out.size))
    clear hb3 hb2
    go_wp2
    go_ret
    exact ⟨rfl, HE.out⟩
set_option maxRecDepth 100000 in
set_option maxHeartbeats 1000000 in
theorem keep_diff1 (h : MsAt W A lo nx da sq) (pl pn : Int) (hl : ¬ pl < lo) (hn : ¬ pn < nx) (hs : ¬ pl = lo) {e : Int} {R : World → Prop}
    (KS : Hid (∀ X, Below W.heap.size W X → Calls Tryd.prog 20 #[.pointer (some ⟨A, 0, none⟩), .agg #[.int .i64 pl, .int .i64 pn]] X fun x w' => x = .returned (.int .i64 e) ∧ R w')) :
    Calls Tryd.prog 14 #[.pointer (some ⟨A, 0, none⟩), .agg #[.int .i64 pl, .int .i64 pn]] W fun x w' => x = .returned (.int .i64 e) ∧ R w' := by
  have HB := Lib.hid ((Below.refl W.heap.size W).alloc (Nat.le_refl _) (.cells #[.int .i64 pl, .int .i64 pn] 34))
  have HM := Lib.hid (h.below HB.out)
  have e0 : (W.alloc (.cells #[.int .i64 pl, .int .i64 pn] 34)).cell? ⟨W.heap.size, 0, none⟩ = some (.int .i64 pl) := new_h rfl rfl
  have e1 : (W.alloc (.cells #[.int .i64 pl, .int .i64 pn] 34)).cell? ⟨W.heap.size, 1, none⟩ = some (.int .i64 pn) := new_h rfl rfl
  clear h
  go_enter Tryd.func14, Tryd.ntmps14
  go_upto_region 1 with fail
  have hYs : (W.alloc (.cells #[.int .i64 pl, .int .i64 pn] 34)).heap.size = W.heap.size + 1 := World.size_alloc _ _
  have hYq : W.heap.size < (W.alloc (.cells #[.int .i64 pl, .int .i64 pn] 34)).heap.size := by omega
  clear hYs
  generalize W.alloc (.cells #[.int .i64 pl, .int .i64 pn] 34) = Y at *
  obtain ⟨c0, c1, c2, c3, fz⟩ := HM.out
  have hd : decide (pl < lo) = false := by simpa using hl
  have hd2 : decide (pn < nx) = false := by simpa using hn
  clear hl hn
  go_quiet (fail)
  rename_i nq
  have HB3 := Lib.hid (below_drewN HB.out nq)
  have HM3 : Hid (MsAt (Y.drewN nq) A lo nx da sq) := HM.out.below (below_drewN (Below.refl _ _) nq)
  have f0 : (Y.drewN nq).cell? ⟨W.heap.size, 0, none⟩ = some (.int .i64 pl) := e0
  have f1 : (Y.drewN nq).cell? ⟨W.heap.size, 1, none⟩ = some (.int .i64 pn) := e1
  have hYq2 : W.heap.size < (Y.drewN nq).heap.size := hYq
  clear hYq c0 c1 c2 c3 fz e0 e1 HM HB
  generalize Y.drewN nq = Z at *
  go_wp2_with fail
  have KP := Lib.hid (fun X (hX : Below Z.heap.size Z X) => point_any (HM3.out.below hX))
  go_region_held3 (fun w' => w'.cell? ⟨W.heap.size, 0, none⟩ = some (.int .i64 pl) ∧ w'.cell? ⟨W.heap.size, 1, none⟩ = some (.int .i64 pn)) (go_keep)
    (first | (go_at_call 11; (with_reducible refine (KP.out _ (Below.refl _ _).drew).mono ?_); rintro x w2 ⟨rfl, hb2⟩; have hb3 := (Below.refl Z.heap.size Z).drew.trans hb2; have g0 := keep_h hb3 f0; have g1 := keep_h hb3 f1))
  all_goals
    have HE := Lib.hid (HB3.out.trans (hb3.mono HB3.out.size))
    clear hb3 hb2 hs
    go_wp2_with fail
    ((with_reducible refine (KS.out _ HE.out).mono ?_); rintro x w3 ⟨rfl, hR⟩)
    have HR := Lib.hid hR
    clear hR
    go_wp2
    go_ret
    exact ⟨rfl, HR.out⟩
set_option maxRecDepth 100000 in
set_option maxHeartbeats 1000000 in
theorem keep_diff2 (h : MsAt W A lo nx da sq) (pn : Int) (hn : ¬ pn < nx) (hs : ¬ pn = nx) {e : Int} {R : World → Prop}
    (KS : Hid (∀ X, Below W.heap.size W X → Calls Tryd.prog 20 #[.pointer (some ⟨A, 0, none⟩), .agg #[.int .i64 lo, .int .i64 pn]] X fun x w' => x = .returned (.int .i64 e) ∧ R w')) :
    Calls Tryd.prog 14 #[.pointer (some ⟨A, 0, none⟩), .agg #[.int .i64 lo, .int .i64 pn]] W fun x w' => x = .returned (.int .i64 e) ∧ R w' := by
  have HB := Lib.hid ((Below.refl W.heap.size W).alloc (Nat.le_refl _) (.cells #[.int .i64 lo, .int .i64 pn] 34))
  have HM := Lib.hid (h.below HB.out)
  have e0 : (W.alloc (.cells #[.int .i64 lo, .int .i64 pn] 34)).cell? ⟨W.heap.size, 0, none⟩ = some (.int .i64 lo) := new_h rfl rfl
  have e1 : (W.alloc (.cells #[.int .i64 lo, .int .i64 pn] 34)).cell? ⟨W.heap.size, 1, none⟩ = some (.int .i64 pn) := new_h rfl rfl
  clear h
  go_enter Tryd.func14, Tryd.ntmps14
  go_upto_region 1 with fail
  have hYs : (W.alloc (.cells #[.int .i64 lo, .int .i64 pn] 34)).heap.size = W.heap.size + 1 := World.size_alloc _ _
  have hYq : W.heap.size < (W.alloc (.cells #[.int .i64 lo, .int .i64 pn] 34)).heap.size := by omega
  clear hYs
  generalize W.alloc (.cells #[.int .i64 lo, .int .i64 pn] 34) = Y at *
  obtain ⟨c0, c1, c2, c3, fz⟩ := HM.out
  have hd : decide (lo < lo) = false := by simp
  have hd2 : decide (pn < nx) = false := by simpa using hn
  clear hn
  go_quiet (fail)
  rename_i nq
  have HB3 := Lib.hid (below_drewN HB.out nq)
  have HM3 : Hid (MsAt (Y.drewN nq) A lo nx da sq) := HM.out.below (below_drewN (Below.refl _ _) nq)
  have f0 : (Y.drewN nq).cell? ⟨W.heap.size, 0, none⟩ = some (.int .i64 lo) := e0
  have f1 : (Y.drewN nq).cell? ⟨W.heap.size, 1, none⟩ = some (.int .i64 pn) := e1
  have hYq2 : W.heap.size < (Y.drewN nq).heap.size := hYq
  clear hYq c0 c1 c2 c3 fz e0 e1 HM HB
  generalize Y.drewN nq = Z at *
  go_wp2_with fail
  have KP := Lib.hid (fun X (hX : Below Z.heap.size Z X) => point_any (HM3.out.below hX))
  go_region_held3 (fun w' => w'.cell? ⟨W.heap.size, 0, none⟩ = some (.int .i64 lo) ∧ w'.cell? ⟨W.heap.size, 1, none⟩ = some (.int .i64 pn)) (go_keep)
    (first | (go_at_call 11; (with_reducible refine (KP.out _ (Below.refl _ _).drew).mono ?_); rintro x w2 ⟨rfl, hb2⟩; have hb3 := (Below.refl Z.heap.size Z).drew.trans hb2; have g0 := keep_h hb3 f0; have g1 := keep_h hb3 f1))
  all_goals
    have HE := Lib.hid (HB3.out.trans (hb3.mono HB3.out.size))
    clear hb3 hb2 hs
    go_wp2_with fail
    ((with_reducible refine (KS.out _ HE.out).mono ?_); rintro x w3 ⟨rfl, hR⟩)
    have HR := Lib.hid hR
    clear hR
    go_wp2
    go_ret
    exact ⟨rfl, HR.out⟩
end
end Go.Proofs.YtpoagfldekppkaaDoor
