/-
  THE CONTRACTS of a master's Point and save.
-/
import Derived.Test.YtpoagfldekppkaaDoorPtBase
import Derived.Deep.RegionHeld3
import Derived.BigQuiet
namespace Go.Proofs.YtpoagfldekppkaaDoor
open Go.RowKit
section
variable {W : World} {A P L M : Nat} {da : Option Addr} {lo nx sq : Int}
theorem fr3_new {Y w2 : World} {cs : Array Value} {T : TypeId} (hf : Dv.Fr3 P L M (Y.alloc (.cells cs T)).drew w2) (h : Y.heap.size ≠ P ∧ Y.heap.size ≠ L ∧ Y.heap.size ≠ M) :
    (∀ i v, cs[i]? = some v → w2.cell? ⟨Y.heap.size, i, none⟩ = some v) ∧ ∀ i, w2.frozen? ⟨Y.heap.size, i, none⟩ = false := by
  refine ⟨fun i v hv => hf.cell (p := ⟨Y.heap.size, i, none⟩) (show (Y.alloc _).drew.cell? _ = _ from new_h rfl hv) h.1 h.2.1 h.2.2, fun i => ?_⟩
  exact (World.frozen?_of_block (a := ⟨Y.heap.size, i, none⟩) (hf.block Y.heap.size (show Y.heap.size < (Y.alloc _).heap.size by rw [World.size_alloc]; omega) h.1 h.2.1 h.2.2)).trans (World.frozen?_alloc_at _ _ _ _ rfl)
theorem keep5 {w2 : World} {R b i : Nat} {v v0 v1 v2 v3 v4 : Value} (hne : b ≠ R) (h : w2.cell? ⟨b, i, none⟩ = some v) :
    (((((w2.setCell ⟨R, 0, none⟩ v0).setCell ⟨R, 1, none⟩ v1).setCell ⟨R, 2, none⟩ v2).setCell ⟨R, 3, none⟩ v3).setCell ⟨R, 4, none⟩ v4).cell? ⟨b, i, none⟩ = some v := by
  have o : ∀ {X : World} {j : Nat} {u : Value}, X.cell? ⟨b, i, none⟩ = some v → (X.setCell ⟨R, j, none⟩ u).cell? ⟨b, i, none⟩ = some v := fun hc => by
    rw [World.cell?_setCell_other _ _ _ _ (fun e => by injection e with e1 _; exact hne e1.symm)]; exact hc
  exact o (o (o (o (o h))))
set_option maxRecDepth 100000 in
theorem point_any (h : MsAt W A lo nx da sq) :
    Calls Tryd.prog 11 #[.pointer (some ⟨A, 0, none⟩)] W fun x w' => x = .returned (.agg #[.int .i64 lo, .int .i64 nx]) ∧ Below W.heap.size W w' := by
  obtain ⟨c0, c1, c2, c3, fz⟩ := h
  have d0 := Dv.keep_alloc (o := .cells #[.int .i64 0, .int .i64 0] 34) c0
  have d1 := Dv.keep_alloc (o := .cells #[.int .i64 0, .int .i64 0] 34) c1
  go_enter Tryd.func11, Tryd.ntmps11
  go_wp2
  exact bodyPost_ret (v := .agg #[.int .i64 lo, .int .i64 nx]) (by simp [results, Tryd.results11, go_sem]) rfl ⟨rfl, (Below.refl _ _).alloc (Nat.le_refl _) _⟩
set_option maxRecDepth 100000 in
theorem point_nil (W : World) :
    Calls Tryd.prog 11 #[.pointer none] W fun x w' => x = .returned (.agg #[.int .i64 0, .int .i64 0]) ∧ Below W.heap.size W w' := by
  go_enter Tryd.func11, Tryd.ntmps11
  go_wp2
  exact bodyPost_ret (v := .agg #[.int .i64 0, .int .i64 0]) (by simp [results, Tryd.results11, go_sem]) rfl ⟨rfl, (Below.refl _ _).alloc (Nat.le_refl _) _⟩
theorem sv_fr {X w2 : World} (hb : Below W.heap.size W X) (hf : Dv.Fr3 P L M X w2) (h : MsAt W A lo nx da sq) (hA : A ≠ P ∧ A ≠ L ∧ A ≠ M) : MsAt w2 A lo nx da sq ∧ Fr4 P L M A W w2 :=
  ⟨(h.below hb).fr3 hf hA, (Fr4.of_below hb).trans (.of3 hf)⟩
theorem sv_new {Q : World → Prop} {w2 : World} {q : Nat} {pl pn r0 r1 r2 r3 r4 : Int} {T : TypeId} (h : MsAt w2 A lo nx da sq ∧ Fr4 P L M A W w2) (hk : Keeps A W.heap.size Q) (hQ : Q w2)
    (n0 : w2.cell? ⟨q, 0, none⟩ = some (.int .i64 pl)) (n1 : w2.cell? ⟨q, 1, none⟩ = some (.int .i64 pn)) :
    SvM Q P L M A q w2.heap.size da lo nx sq pl pn r0 W (w2.alloc (.cells #[.int .i64 r0, .int .i64 r1, .int .i64 r2, .int .i64 r3, .int .i64 r4] T)) := by
  have hb : Below w2.heap.size w2 (w2.alloc (.cells #[.int .i64 r0, .int .i64 r1, .int .i64 r2, .int .i64 r3, .int .i64 r4] T)) := (Below.refl _ _).alloc (Nat.le_refl _) _
  exact ⟨new_h rfl rfl, keep_h hb n0, keep_h hb n1, h.1.below hb, hk.below _ _ hQ hb, h.2.trans (.of_below hb)⟩
theorem sv_set {Q : World → Prop} {w2 : World} {q R : Nat} {pl pn r0 r1 r2 r3 r4 : Int} {v : Value} (h : MsAt w2 A lo nx da sq ∧ Fr4 P L M A W w2) (hk : Keeps A W.heap.size Q) (hQ : Q w2)
    (n0 : w2.cell? ⟨q, 0, none⟩ = some (.int .i64 pl)) (n1 : w2.cell? ⟨q, 1, none⟩ = some (.int .i64 pn)) (z0 : w2.cell? ⟨R, 0, none⟩ = some v) (hR : W.heap.size ≤ R) (hq : q ≠ R) (hAR : A ≠ R) :
    SvM Q P L M A q R da lo nx sq pl pn r0 W (((((w2.setCell ⟨R, 0, none⟩ (.int .i64 r0)).setCell ⟨R, 1, none⟩ (.int .i64 r1)).setCell ⟨R, 2, none⟩ (.int .i64 r2)).setCell ⟨R, 3, none⟩ (.int .i64 r3)).setCell ⟨R, 4, none⟩ (.int .i64 r4)) := by
  have o : ∀ {X : World} {j : Nat} {u v : Value}, j ≠ 0 → X.cell? ⟨R, 0, none⟩ = some v → (X.setCell ⟨R, j, none⟩ u).cell? ⟨R, 0, none⟩ = some v := fun hj hc => by
    rw [World.cell?_setCell_other _ _ _ _ (fun e => by injection e with _ e2; exact hj e2)]; exact hc
  obtain ⟨⟨c0, c1, c2, c3, fz⟩, hf⟩ := h
  exact ⟨o (by decide) (o (by decide) (o (by decide) (o (by decide) (World.cell?_setCell_same _ _ _ z0)))), keep5 hq n0, keep5 hq n1,
    ⟨keep5 hAR c0, keep5 hAR c1, keep5 hAR c2, keep5 hAR c3, fun i => by simp only [World.frozen?_setCell]; exact fz i⟩,
    hk.set _ _ _ _ (.inr hR) (hk.set _ _ _ _ (.inr hR) (hk.set _ _ _ _ (.inr hR) (hk.set _ _ _ _ (.inr hR) (hk.set _ _ _ _ (.inr hR) hQ)))),
    ((((hf.setB hR).setB hR).setB hR).setB hR).setB hR⟩
theorem sv_end {Q : World → Prop} {X : World} {q R : Nat} {pl pn r0 : Int} (h : SvM Q P L M A q R da lo nx sq pl pn r0 W X) (hk : Keeps A W.heap.size Q) :
    MsAt (((X.setCell ⟨A, 0, none⟩ (.int .i64 pl)).setCell ⟨A, 1, none⟩ (.int .i64 pn)).setCell ⟨A, 3, none⟩ (.int .i64 r0)).drew A pl pn da r0 ∧ Q (((X.setCell ⟨A, 0, none⟩ (.int .i64 pl)).setCell ⟨A, 1, none⟩ (.int .i64 pn)).setCell ⟨A, 3, none⟩ (.int .i64 r0)).drew ∧ Fr4 P L M A W (((X.setCell ⟨A, 0, none⟩ (.int .i64 pl)).setCell ⟨A, 1, none⟩ (.int .i64 pn)).setCell ⟨A, 3, none⟩ (.int .i64 r0)).drew := by
  have hd : ∀ Z : World, Below Z.heap.size Z Z.drew := fun Z => (Below.refl _ _).drew
  exact ⟨(h.m.put pl pn r0).below (hd _), hk.below _ _ (hk.set _ _ _ _ (.inl rfl) (hk.set _ _ _ _ (.inl rfl) (hk.set _ _ _ _ (.inl rfl) h.k))) (hd _), (((h.fr.set).set).set).trans (.of_below (hd _))⟩
set_option maxRecDepth 100000 in
set_option maxHeartbeats 1000000 in
theorem save_m {Q : World → Prop} (h : MsAt W A lo nx da sq) (hA : A ≠ P ∧ A ≠ L ∧ A ≠ M) (hlt : P < W.heap.size ∧ L < W.heap.size ∧ M < W.heap.size) (pl pn : Int) (hk : Keeps A W.heap.size Q)
    (KS : Hid (∀ X, Below W.heap.size W X → Calls Tryd.prog 18 #[.pointer da, .int .i64 0, .agg #[.int .i64 sq, .int .i64 0, .int .i64 pn, .int .i64 pl, .int .i64 0]] X fun x w' => x = .returned (.tuple #[.agg #[.int .i64 (sq + 1), .int .i64 0, .int .i64 pn, .int .i64 pl, .int .i64 0], .int .i64 0]) ∧ Q w' ∧ Dv.Fr3 P L M X w')) :
    Calls Tryd.prog 20 #[.pointer (some ⟨A, 0, none⟩), .agg #[.int .i64 pl, .int .i64 pn]] W fun x w' => x = .returned (.int .i64 0) ∧ MsAt w' A pl pn da (sq + 1) ∧ Q w' ∧ Fr4 P L M A W w' := by
  have HM := Lib.hid h
  have HK := Lib.hid hk
  obtain ⟨c0, c1, c2, c3, fz⟩ := h
  have HB := Lib.hid ((Below.refl W.heap.size W).alloc (Nat.le_refl _) (.cells #[.int .i64 pl, .int .i64 pn] 34))
  have d0 := keep_h HB.out c0
  have d1 := keep_h HB.out c1
  have d2 := keep_h HB.out c2
  have d3 := keep_h HB.out c3
  have e0 : (W.alloc (.cells #[.int .i64 pl, .int .i64 pn] 34)).cell? ⟨W.heap.size, 0, none⟩ = some (.int .i64 pl) := new_h rfl rfl
  have e1 : (W.alloc (.cells #[.int .i64 pl, .int .i64 pn] 34)).cell? ⟨W.heap.size, 1, none⟩ = some (.int .i64 pn) := new_h rfl rfl
  clear hk
  go_enter Tryd.func20, Tryd.ntmps20
  go_upto_region 1 with fail
  have hq3 : W.heap.size ≠ P ∧ W.heap.size ≠ L ∧ W.heap.size ≠ M := ⟨by omega, by omega, by omega⟩
  generalize hY : W.alloc (.cells #[.int .i64 pl, .int .i64 pn] 34) = Y at *
  clear c0 c1 c2 c3
  have hYq : W.heap.size < Y.heap.size := by rw [← hY, World.size_alloc]; omega
  have hAY : A ≠ Y.heap.size := by have : A < Y.heap.size := blk_of d0; omega
  have hqY : W.heap.size ≠ Y.heap.size := by omega
  have hYs : W.heap.size ≤ Y.heap.size := by omega
  clear hY
  have hR3 : Y.heap.size ≠ P ∧ Y.heap.size ≠ L ∧ Y.heap.size ≠ M := ⟨by omega, by omega, by omega⟩
  go_region_held3 (fun w' => w'.cell? ⟨A, 2, none⟩ = some (.pointer da) ∧ w'.cell? ⟨A, 3, none⟩ = some (.int .i64 sq) ∧ w'.cell? ⟨W.heap.size, 0, none⟩ = some (.int .i64 pl) ∧ w'.cell? ⟨W.heap.size, 1, none⟩ = some (.int .i64 pn))
    (first | go_keep | (refine ⟨?_, ?_, ?_, ?_⟩ <;> (with_reducible refine keep5 (by assumption) (by assumption))))
    (first
      | (go_at_call 18; (with_reducible refine (KS.out _ HB.out.drew).mono ?_); rintro x w2 ⟨rfl, hQ2, hf2⟩; have hS2 := sv_fr HB.out.drew hf2 HM.out hA; have m0 := hf2.cell (p := ⟨A, 0, none⟩) (show Y.drew.cell? _ = _ from d0) hA.1 hA.2.1 hA.2.2; have m1 := hf2.cell (p := ⟨A, 1, none⟩) (show Y.drew.cell? _ = _ from d1) hA.1 hA.2.1 hA.2.2; have m2 := hf2.cell (p := ⟨A, 2, none⟩) (show Y.drew.cell? _ = _ from d2) hA.1 hA.2.1 hA.2.2; have m3 := hf2.cell (p := ⟨A, 3, none⟩) (show Y.drew.cell? _ = _ from d3) hA.1 hA.2.1 hA.2.2; have n0 := hf2.cell (p := ⟨W.heap.size, 0, none⟩) (show Y.drew.cell? _ = _ from e0) hq3.1 hq3.2.1 hq3.2.2; have n1 := hf2.cell (p := ⟨W.heap.size, 1, none⟩) (show Y.drew.cell? _ = _ from e1) hq3.1 hq3.2.1 hq3.2.2)
      | (go_at_call 18; (with_reducible refine (KS.out _ (HB.out.alloc hYs _).drew).mono ?_); rintro x w2 ⟨rfl, hQ2, hf2⟩; have hS2 := sv_fr (HB.out.alloc hYs _).drew hf2 HM.out hA; have m0 := hf2.cell (p := ⟨A, 0, none⟩) (show (Y.alloc _).drew.cell? _ = _ from Dv.keep_alloc d0) hA.1 hA.2.1 hA.2.2; have m1 := hf2.cell (p := ⟨A, 1, none⟩) (show (Y.alloc _).drew.cell? _ = _ from Dv.keep_alloc d1) hA.1 hA.2.1 hA.2.2; have m2 := hf2.cell (p := ⟨A, 2, none⟩) (show (Y.alloc _).drew.cell? _ = _ from Dv.keep_alloc d2) hA.1 hA.2.1 hA.2.2; have m3 := hf2.cell (p := ⟨A, 3, none⟩) (show (Y.alloc _).drew.cell? _ = _ from Dv.keep_alloc d3) hA.1 hA.2.1 hA.2.2; have n0 := hf2.cell (p := ⟨W.heap.size, 0, none⟩) (show (Y.alloc _).drew.cell? _ = _ from Dv.keep_alloc e0) hq3.1 hq3.2.1 hq3.2.2; have n1 := hf2.cell (p := ⟨W.heap.size, 1, none⟩) (show (Y.alloc _).drew.cell? _ = _ from Dv.keep_alloc e1) hq3.1 hq3.2.1 hq3.2.2; have zq := fr3_new hf2 hR3; have z0 := zq.1 0 _ rfl; have z1 := zq.1 1 _ rfl; have z2 := zq.1 2 _ rfl; have z3 := zq.1 3 _ rfl; have z4 := zq.1 4 _ rfl; have zf := zq.2; clear zq))
  all_goals first
    | (have S := Lib.hid (sv_set hS2 HK.out hQ2 n0 n1 z0 hYs hqY hAY (r0 := sq + 1) (r1 := 0) (r2 := pn) (r3 := pl) (r4 := 0))
       have hRA : Y.heap.size ≠ A := Ne.symm hAY
       clear hS2 hQ2 hf2 m0 m1 m2 m3 n0 n1 z0 z1 z2 z3 z4 zf
       generalize (((((w2.setCell ⟨Y.heap.size, 0, none⟩ (.int .i64 (sq + 1))).setCell ⟨Y.heap.size, 1, none⟩ (.int .i64 0)).setCell ⟨Y.heap.size, 2, none⟩ (.int .i64 pn)).setCell ⟨Y.heap.size, 3, none⟩ (.int .i64 pl)).setCell ⟨Y.heap.size, 4, none⟩ (.int .i64 0)) = X at *
       generalize Y.heap.size = R at *)
    | (have S := Lib.hid (sv_new hS2 HK.out hQ2 n0 n1 (r0 := sq + 1) (r1 := 0) (r2 := pn) (r3 := pl) (r4 := 0) (T := 44))
       have hRA : w2.heap.size ≠ A := by have : A < w2.heap.size := blk_of m0; omega
       clear hS2 hQ2 hf2 m0 m1 m2 m3 n0 n1
       generalize w2.alloc (.cells #[.int .i64 (sq + 1), .int .i64 0, .int .i64 pn, .int .i64 pl, .int .i64 0] 44) = X at *
       generalize w2.heap.size = R at *)
  all_goals
    clear d0 d1 d2 d3 e0 e1
    obtain ⟨x0, n0, n1, ⟨c0, c1, c2, c3, fz'⟩, xk, xf⟩ := S.out
    have E := Lib.hid (sv_end S.out HK.out)
    go_upto_region 4 with fail
    go_region
    go_wp2
    go_ret
    exact ⟨rfl, E.out⟩
set_option maxRecDepth 100000 in
set_option maxHeartbeats 1000000 in
theorem save_no1 {Q : World → Prop} (h : MsAt W A lo nx da sq) (hA : A ≠ P ∧ A ≠ L ∧ A ≠ M) (hlt : P < W.heap.size ∧ L < W.heap.size ∧ M < W.heap.size) (pl pn : Int) (hk : Keeps A W.heap.size Q)
    (KS : Hid (∀ X, Below W.heap.size W X → Calls Tryd.prog 18 #[.pointer da, .int .i64 0, .agg #[.int .i64 sq, .int .i64 0, .int .i64 pn, .int .i64 pl, .int .i64 0]] X fun x w' => x = .returned (.tuple #[.agg #[.int .i64 0, .int .i64 0, .int .i64 0, .int .i64 0, .int .i64 0], .int .i64 1]) ∧ Q w' ∧ Dv.Fr3 P L M X w')) :
    Calls Tryd.prog 20 #[.pointer (some ⟨A, 0, none⟩), .agg #[.int .i64 pl, .int .i64 pn]] W fun x w' => x = .returned (.int .i64 1) ∧ MsAt w' A lo nx da sq ∧ Q w' ∧ Fr4 P L M A W w' := by
  have HM := Lib.hid h
  have HK := Lib.hid hk
  obtain ⟨c0, c1, c2, c3, fz⟩ := h
  have HB := Lib.hid ((Below.refl W.heap.size W).alloc (Nat.le_refl _) (.cells #[.int .i64 pl, .int .i64 pn] 34))
  have d0 := keep_h HB.out c0
  have d1 := keep_h HB.out c1
  have d2 := keep_h HB.out c2
  have d3 := keep_h HB.out c3
  have e0 : (W.alloc (.cells #[.int .i64 pl, .int .i64 pn] 34)).cell? ⟨W.heap.size, 0, none⟩ = some (.int .i64 pl) := new_h rfl rfl
  have e1 : (W.alloc (.cells #[.int .i64 pl, .int .i64 pn] 34)).cell? ⟨W.heap.size, 1, none⟩ = some (.int .i64 pn) := new_h rfl rfl
  clear hk
  go_enter Tryd.func20, Tryd.ntmps20
  go_upto_region 1 with fail
  have hq3 : W.heap.size ≠ P ∧ W.heap.size ≠ L ∧ W.heap.size ≠ M := ⟨by omega, by omega, by omega⟩
  generalize hY : W.alloc (.cells #[.int .i64 pl, .int .i64 pn] 34) = Y at *
  clear c0 c1 c2 c3
  have hYq : W.heap.size < Y.heap.size := by rw [← hY, World.size_alloc]; omega
  have hAY : A ≠ Y.heap.size := by have : A < Y.heap.size := blk_of d0; omega
  have hqY : W.heap.size ≠ Y.heap.size := by omega
  have hYs : W.heap.size ≤ Y.heap.size := by omega
  clear hY
  have hR3 : Y.heap.size ≠ P ∧ Y.heap.size ≠ L ∧ Y.heap.size ≠ M := ⟨by omega, by omega, by omega⟩
  go_region_held3 (fun w' => w'.cell? ⟨A, 2, none⟩ = some (.pointer da) ∧ w'.cell? ⟨A, 3, none⟩ = some (.int .i64 sq) ∧ w'.cell? ⟨W.heap.size, 0, none⟩ = some (.int .i64 pl) ∧ w'.cell? ⟨W.heap.size, 1, none⟩ = some (.int .i64 pn))
    (first | go_keep | (refine ⟨?_, ?_, ?_, ?_⟩ <;> (with_reducible refine keep5 (by assumption) (by assumption))))
    (first
      | (go_at_call 18; (with_reducible refine (KS.out _ HB.out.drew).mono ?_); rintro x w2 ⟨rfl, hQ2, hf2⟩; have hS2 := sv_fr HB.out.drew hf2 HM.out hA; have m0 := hf2.cell (p := ⟨A, 0, none⟩) (show Y.drew.cell? _ = _ from d0) hA.1 hA.2.1 hA.2.2; have m1 := hf2.cell (p := ⟨A, 1, none⟩) (show Y.drew.cell? _ = _ from d1) hA.1 hA.2.1 hA.2.2; have m2 := hf2.cell (p := ⟨A, 2, none⟩) (show Y.drew.cell? _ = _ from d2) hA.1 hA.2.1 hA.2.2; have m3 := hf2.cell (p := ⟨A, 3, none⟩) (show Y.drew.cell? _ = _ from d3) hA.1 hA.2.1 hA.2.2; have n0 := hf2.cell (p := ⟨W.heap.size, 0, none⟩) (show Y.drew.cell? _ = _ from e0) hq3.1 hq3.2.1 hq3.2.2; have n1 := hf2.cell (p := ⟨W.heap.size, 1, none⟩) (show Y.drew.cell? _ = _ from e1) hq3.1 hq3.2.1 hq3.2.2)
      | (go_at_call 18; (with_reducible refine (KS.out _ (HB.out.alloc hYs _).drew).mono ?_); rintro x w2 ⟨rfl, hQ2, hf2⟩; have hS2 := sv_fr (HB.out.alloc hYs _).drew hf2 HM.out hA; have m0 := hf2.cell (p := ⟨A, 0, none⟩) (show (Y.alloc _).drew.cell? _ = _ from Dv.keep_alloc d0) hA.1 hA.2.1 hA.2.2; have m1 := hf2.cell (p := ⟨A, 1, none⟩) (show (Y.alloc _).drew.cell? _ = _ from Dv.keep_alloc d1) hA.1 hA.2.1 hA.2.2; have m2 := hf2.cell (p := ⟨A, 2, none⟩) (show (Y.alloc _).drew.cell? _ = _ from Dv.keep_alloc d2) hA.1 hA.2.1 hA.2.2; have m3 := hf2.cell (p := ⟨A, 3, none⟩) (show (Y.alloc _).drew.cell? _ = _ from Dv.keep_alloc d3) hA.1 hA.2.1 hA.2.2; have n0 := hf2.cell (p := ⟨W.heap.size, 0, none⟩) (show (Y.alloc _).drew.cell? _ = _ from Dv.keep_alloc e0) hq3.1 hq3.2.1 hq3.2.2; have n1 := hf2.cell (p := ⟨W.heap.size, 1, none⟩) (show (Y.alloc _).drew.cell? _ = _ from Dv.keep_alloc e1) hq3.1 hq3.2.1 hq3.2.2; have zq := fr3_new hf2 hR3; have z0 := zq.1 0 _ rfl; have z1 := zq.1 1 _ rfl; have z2 := zq.1 2 _ rfl; have z3 := zq.1 3 _ rfl; have z4 := zq.1 4 _ rfl; have zf := zq.2; clear zq))
  all_goals first
    | (have S := Lib.hid (sv_set hS2 HK.out hQ2 n0 n1 z0 hYs hqY hAY (r0 := 0) (r1 := 0) (r2 := 0) (r3 := 0) (r4 := 0))
       have hRA : Y.heap.size ≠ A := Ne.symm hAY
       clear hS2 hQ2 hf2 m0 m1 m2 m3 n0 n1 z0 z1 z2 z3 z4 zf
       generalize (((((w2.setCell ⟨Y.heap.size, 0, none⟩ (.int .i64 0)).setCell ⟨Y.heap.size, 1, none⟩ (.int .i64 0)).setCell ⟨Y.heap.size, 2, none⟩ (.int .i64 0)).setCell ⟨Y.heap.size, 3, none⟩ (.int .i64 0)).setCell ⟨Y.heap.size, 4, none⟩ (.int .i64 0)) = X at *
       generalize Y.heap.size = R at *)
    | (have S := Lib.hid (sv_new hS2 HK.out hQ2 n0 n1 (r0 := 0) (r1 := 0) (r2 := 0) (r3 := 0) (r4 := 0) (T := 44))
       have hRA : w2.heap.size ≠ A := by have : A < w2.heap.size := blk_of m0; omega
       clear hS2 hQ2 hf2 m0 m1 m2 m3 n0 n1
       generalize w2.alloc (.cells #[.int .i64 0, .int .i64 0, .int .i64 0, .int .i64 0, .int .i64 0] 44) = X at *
       generalize w2.heap.size = R at *)
  all_goals
    clear d0 d1 d2 d3 e0 e1
    obtain ⟨_, _, _, _, xk, xf⟩ := S.out
    go_wp2
    go_ret
    exact ⟨rfl, S.out.m, xk, xf⟩
set_option maxRecDepth 100000 in
set_option maxHeartbeats 1000000 in
theorem save_no6 {Q : World → Prop} (h : MsAt W A lo nx da sq) (hA : A ≠ P ∧ A ≠ L ∧ A ≠ M) (hlt : P < W.heap.size ∧ L < W.heap.size ∧ M < W.heap.size) (pl pn : Int) (hk : Keeps A W.heap.size Q)
    (KS : Hid (∀ X, Below W.heap.size W X → Calls Tryd.prog 18 #[.pointer da, .int .i64 0, .agg #[.int .i64 sq, .int .i64 0, .int .i64 pn, .int .i64 pl, .int .i64 0]] X fun x w' => x = .returned (.tuple #[.agg #[.int .i64 0, .int .i64 0, .int .i64 0, .int .i64 0, .int .i64 0], .int .i64 6]) ∧ Q w' ∧ Dv.Fr3 P L M X w')) :
    Calls Tryd.prog 20 #[.pointer (some ⟨A, 0, none⟩), .agg #[.int .i64 pl, .int .i64 pn]] W fun x w' => x = .returned (.int .i64 6) ∧ MsAt w' A lo nx da sq ∧ Q w' ∧ Fr4 P L M A W w' := by
  have HM := Lib.hid h
  have HK := Lib.hid hk
  obtain ⟨c0, c1, c2, c3, fz⟩ := h
  have HB := Lib.hid ((Below.refl W.heap.size W).alloc (Nat.le_refl _) (.cells #[.int .i64 pl, .int .i64 pn] 34))
  have d0 := keep_h HB.out c0
  have d1 := keep_h HB.out c1
  have d2 := keep_h HB.out c2
  have d3 := keep_h HB.out c3
  have e0 : (W.alloc (.cells #[.int .i64 pl, .int .i64 pn] 34)).cell? ⟨W.heap.size, 0, none⟩ = some (.int .i64 pl) := new_h rfl rfl
  have e1 : (W.alloc (.cells #[.int .i64 pl, .int .i64 pn] 34)).cell? ⟨W.heap.size, 1, none⟩ = some (.int .i64 pn) := new_h rfl rfl
  clear hk
  go_enter Tryd.func20, Tryd.ntmps20
  go_upto_region 1 with fail
  have hq3 : W.heap.size ≠ P ∧ W.heap.size ≠ L ∧ W.heap.size ≠ M := ⟨by omega, by omega, by omega⟩
  generalize hY : W.alloc (.cells #[.int .i64 pl, .int .i64 pn] 34) = Y at *
  clear c0 c1 c2 c3
  have hYq : W.heap.size < Y.heap.size := by rw [← hY, World.size_alloc]; omega
  have hAY : A ≠ Y.heap.size := by have : A < Y.heap.size := blk_of d0; omega
  have hqY : W.heap.size ≠ Y.heap.size := by omega
  have hYs : W.heap.size ≤ Y.heap.size := by omega
  clear hY
  have hR3 : Y.heap.size ≠ P ∧ Y.heap.size ≠ L ∧ Y.heap.size ≠ M := ⟨by omega, by omega, by omega⟩
  go_region_held3 (fun w' => w'.cell? ⟨A, 2, none⟩ = some (.pointer da) ∧ w'.cell? ⟨A, 3, none⟩ = some (.int .i64 sq) ∧ w'.cell? ⟨W.heap.size, 0, none⟩ = some (.int .i64 pl) ∧ w'.cell? ⟨W.heap.size, 1, none⟩ = some (.int .i64 pn))
    (first | go_keep | (refine ⟨?_, ?_, ?_, ?_⟩ <;> (with_reducible refine keep5 (by assumption) (by assumption))))
    (first
      | (go_at_call 18; (with_reducible refine (KS.out _ HB.out.drew).mono ?_); rintro x w2 ⟨rfl, hQ2, hf2⟩; have hS2 := sv_fr HB.out.drew hf2 HM.out hA; have m0 := hf2.cell (p := ⟨A, 0, none⟩) (show Y.drew.cell? _ = _ from d0) hA.1 hA.2.1 hA.2.2; have m1 := hf2.cell (p := ⟨A, 1, none⟩) (show Y.drew.cell? _ = _ from d1) hA.1 hA.2.1 hA.2.2; have m2 := hf2.cell (p := ⟨A, 2, none⟩) (show Y.drew.cell? _ = _ from d2) hA.1 hA.2.1 hA.2.2; have m3 := hf2.cell (p := ⟨A, 3, none⟩) (show Y.drew.cell? _ = _ from d3) hA.1 hA.2.1 hA.2.2; have n0 := hf2.cell (p := ⟨W.heap.size, 0, none⟩) (show Y.drew.cell? _ = _ from e0) hq3.1 hq3.2.1 hq3.2.2; have n1 := hf2.cell (p := ⟨W.heap.size, 1, none⟩) (show Y.drew.cell? _ = _ from e1) hq3.1 hq3.2.1 hq3.2.2)
      | (go_at_call 18; (with_reducible refine (KS.out _ (HB.out.alloc hYs _).drew).mono ?_); rintro x w2 ⟨rfl, hQ2, hf2⟩; have hS2 := sv_fr (HB.out.alloc hYs _).drew hf2 HM.out hA; have m0 := hf2.cell (p := ⟨A, 0, none⟩) (show (Y.alloc _).drew.cell? _ = _ from Dv.keep_alloc d0) hA.1 hA.2.1 hA.2.2; have m1 := hf2.cell (p := ⟨A, 1, none⟩) (show (Y.alloc _).drew.cell? _ = _ from Dv.keep_alloc d1) hA.1 hA.2.1 hA.2.2; have m2 := hf2.cell (p := ⟨A, 2, none⟩) (show (Y.alloc _).drew.cell? _ = _ from Dv.keep_alloc d2) hA.1 hA.2.1 hA.2.2; have m3 := hf2.cell (p := ⟨A, 3, none⟩) (show (Y.alloc _).drew.cell? _ = _ from Dv.keep_alloc d3) hA.1 hA.2.1 hA.2.2; have n0 := hf2.cell (p := ⟨W.heap.size, 0, none⟩) (show (Y.alloc _).drew.cell? _ = _ from Dv.keep_alloc e0) hq3.1 hq3.2.1 hq3.2.2; have n1 := hf2.cell (p := ⟨W.heap.size, 1, none⟩) (show (Y.alloc _).drew.cell? _ = _ from Dv.keep_alloc e1) hq3.1 hq3.2.1 hq3.2.2; have zq := fr3_new hf2 hR3; have z0 := zq.1 0 _ rfl; have z1 := zq.1 1 _ rfl; have z2 := zq.1 2 _ rfl; have z3 := zq.1 3 _ rfl; have z4 := zq.1 4 _ rfl; have zf := zq.2; clear zq))
  all_goals first
    | (have S := Lib.hid (sv_set hS2 HK.out hQ2 n0 n1 z0 hYs hqY hAY (r0 := 0) (r1 := 0) (r2 := 0) (r3 := 0) (r4 := 0))
       have hRA : Y.heap.size ≠ A := Ne.symm hAY
       clear hS2 hQ2 hf2 m0 m1 m2 m3 n0 n1 z0 z1 z2 z3 z4 zf
       generalize (((((w2.setCell ⟨Y.heap.size, 0, none⟩ (.int .i64 0)).setCell ⟨Y.heap.size, 1, none⟩ (.int .i64 0)).setCell ⟨Y.heap.size, 2, none⟩ (.int .i64 0)).setCell ⟨Y.heap.size, 3, none⟩ (.int .i64 0)).setCell ⟨Y.heap.size, 4, none⟩ (.int .i64 0)) = X at *
       generalize Y.heap.size = R at *)
    | (have S := Lib.hid (sv_new hS2 HK.out hQ2 n0 n1 (r0 := 0) (r1 := 0) (r2 := 0) (r3 := 0) (r4 := 0) (T := 44))
       have hRA : w2.heap.size ≠ A := by have : A < w2.heap.size := blk_of m0; omega
       clear hS2 hQ2 hf2 m0 m1 m2 m3 n0 n1
       generalize w2.alloc (.cells #[.int .i64 0, .int .i64 0, .int .i64 0, .int .i64 0, .int .i64 0] 44) = X at *
       generalize w2.heap.size = R at *)
  all_goals
    clear d0 d1 d2 d3 e0 e1
    obtain ⟨_, _, _, _, xk, xf⟩ := S.out
    go_wp2
    go_ret
    exact ⟨rfl, S.out.m, xk, xf⟩
end
end Go.Proofs.YtpoagfldekppkaaDoor
