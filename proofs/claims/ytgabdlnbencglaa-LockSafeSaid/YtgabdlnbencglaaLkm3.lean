/-
  A TABLE OF LOCKS: hold, of one that holds the key not yet.
  A TABLE OF LOCKS: the part of a line in which a waiter stands that holds nothing of the key.
-/
import Derived.Test.YtgabdlnbencglaaLkSet
namespace Go.Proofs.Ytgabdlnbencglaa
open Go.RowKit
/-- A waiter that stands in no queue yet. -/
structure Fw (W : World) (w : Nat) (x : Wc) : Prop where
  c : WtAt W w x
  c3 : ∃ v, W.cell? ⟨w, 3, none⟩ = some v
  c4 : ∃ v, W.cell? ⟨w, 4, none⟩ = some v
  fz : ∀ i, W.frozen? ⟨w, i, none⟩ = false
section
variable {B : Nat} {W X : World} {T ml mh mw n : Nat} {s : Lk} {w : Nat} {x : Wc}
theorem Fw.below (h : Fw W w x) (hb : Below W.heap.size W X) : Fw X w x := by
  obtain ⟨v3, h3⟩ := h.c3
  obtain ⟨v4, h4⟩ := h.c4
  exact ⟨h.c.below hb, ⟨v3, keep_cell hb h3⟩, ⟨v4, keep_cell hb h4⟩, fun i => (hb.frozen (p := ⟨w, i, none⟩) h.c.lt).trans (h.fz i)⟩
theorem Fw.grown (h : Fw W w x) {M : Nat} (hM : ∀ i, W.cell? ⟨M, i, none⟩ = none) (hg : W.grownBy X (some M)) : Fw X w x := by
  obtain ⟨v3, h3⟩ := h.c3
  obtain ⟨v4, h4⟩ := h.c4
  have ne : w ≠ M := fun e => by
    have := h.c.c0
    rw [e, hM] at this; cases this
  have hc := Cf.grown hg
  exact ⟨h.c.keep hc (fun _ _ => ne), ⟨v3, hc.cell _ _ _ ne h3⟩, ⟨v4, hc.cell _ _ _ ne h4⟩, fun i => (hc.frz w i h.c.lt ⟨0, ne⟩).trans (h.fz i)⟩
/-- What hold leaves: the map of the owner's is m. -/
noncomputable def heldS (s : Lk) (m w : Nat) (x : Wc) : Lk := { s with hm := updM s.hm x.ow (some m), hd := updH s.hd x.ow x.k (some w), q := updQ s.q 0 x.k (s.q 0 x.k ++ [w]), con := updC s.con w x }
def HoP (B : Nat) (T ml mh mw n : Nat) (s : Lk) (w : Nat) (x : Wc) (W : World) (e : Ending) (W' : World) : Prop :=
  e = .returned (.tuple #[]) ∧ ∃ m, LkAt B W' T ml mh mw (n + 2) (heldS s m w x) ∧ Below B W W'
theorem LkAt.grownB (h : LkAt B W T ml mh mw n s) {M : Nat} (hM : B ≤ M) (hg : W.grownBy X (some M)) : Below B W X :=
  (Below.refl B W).grown hg h.lts (fun g e => by injection e with e; omega)
theorem cf_below {S : Nat → Nat → Prop} (hc : Cf W X S) (hS : ∀ b i, S b i → B ≤ b) (hB : B ≤ W.heap.size) : Below B W X :=
  ⟨hc.os, hc.tape, hc.output, hc.size, fun b hb => hc.block b (Nat.lt_of_lt_of_le hb hB) (fun i q => by have := hS b i q; omega)⟩
set_option maxRecDepth 100000 in
set_option maxHeartbeats 2000000 in
theorem hold_in (h : LkAt B W T ml mh mw n s) (hx : Fw W w x) (hf : ∀ i k', i < 3 → w ∉ s.q i k') (hp : ∀ b c, s.pas b = some c → b ≠ w) (hB : B ≤ w) {K m : Nat} (hk : s.lk x.k = some K) (hm : s.hm x.ow = some m) (hh : s.hd x.ow x.k = none) (hks : x.k.size ≤ maxLen) (hwf : (Lit.int .i64 x.ow).wf = true) (hn : n < maxLen) :
    Calls Try.prog 32 #[.pointer (some ⟨T, 0, none⟩), .pointer (some ⟨w, 0, none⟩)] W (HoP B T ml mh mw n s w x W) := by
  have HD := Lib.hid (h.below (Below.refl _ _).drew)
  have HX := Lib.hid (hx.below (Below.refl _ _).drew)
  have t1 := HD.out.t1
  have c2 := HX.out.c.c2
  have c0 := HX.out.c.c0
  have l1 := HD.out.m1.look heldMap x.ow hwf
  rw [hm] at l1
  have l1 : (Instr.lookup 57 (.map (some mh)) (.int .i64 x.ow) false).run Try.prog W.drew = .ok (.map (some m)) W.drew := l1
  have l2 := (HD.out.md x.ow m hm).look waiterMap x.k hks
  rw [hh] at l2
  have l2 : (Instr.lookup 73 (.map (some m)) (.string x.k) false).run Try.prog W.drew = .ok (.pointer none) W.drew := l2
  obtain ⟨X1, hst, hm1, hg1, hs1⟩ := (HD.out.md x.ow m hm).store waiterMap x.k hks w hn
  have hst : (Instr.mapUpdate 73 (.map (some m)) (.string x.k) (.pointer (some ⟨w, 0, none⟩))).run Try.prog W.drew = .ok () X1 := hst
  have h1 := HD.out.setHeld (z := some w) hm hm1 hg1
  have hx1 := HX.out.grown (HD.out.md x.ow m hm).no_cell hg1
  have hb1 := HD.out.grownB (h.bm x.ow m hm) hg1
  -- the lock's queue
  have H2 := Lib.hid (h1.below (Below.refl _ _).drew)
  have HX2 := Lib.hid (hx1.below (Below.refl _ _).drew)
  have u0 := H2.out.t0
  have d0 := HX2.out.c.c0
  have l3 := H2.out.m0.look lockMap x.k hks
  rw [show ({ s with hd := updH s.hd x.ow x.k (some w) } : Lk).lk x.k = some K from hk] at l3
  have l3 : (Instr.lookup 56 (.map (some ml)) (.string x.k) false).run Try.prog X1.drew = .ok (.pointer (some ⟨K, 0, none⟩)) X1.drew := l3
  obtain ⟨v3, e3⟩ := HX2.out.c3
  obtain ⟨v4, e4⟩ := HX2.out.c4
  have KP := Lib.hid (put_any (H2.out.qa x.k K hk 0 (by decide)) (hf 0 x.k (by decide)) (H2.out.kx hk HX2.out.c).symm e3 e4 HX2.out.fz)
  have HB1 : Hid (Below B W X1.drew) := by
    have e1 : Below B W W.drew := (Below.refl _ _).drew
    exact (e1.trans hb1).drew
  have HF := Lib.hid hf
  have HPW := Lib.hid hp
  have HK := Lib.hid hk
  have HM := Lib.hid hm
  have HBw := Lib.hid hB
  have qE : ∀ (w : World) (r : Option Nat), (binOp .eql 73 (.map r) (.map none)).run Try.prog w = .ok (.bool r.isNone) w := fun w r => run_eql_map_nil w _ _ _ r Try.underlying73
  have qb := h.bk x.k K hk
  have QB := Lib.hid (fun y => h.bw 0 x.k y (by decide))
  clear h hx hf hp hk hm hh hm1 hg1 h1 hx1 hb1 hB e3 e4 hs1
  go_enter Try.func32, Try.ntmps32
  go_upto_region 0 with fail
  refine wp_region_any (by kernel_rfl) ?_
  change wpAny _ _ _ _ _ _ _ (World.drew _)
  refine wpAny_rest 0 (by rfl) (by kernel_rfl) ?_
  simp only [List.drop_zero]
  repeat still_step
  refine wpStill_nil ?_
  generalize W.drew = W1 at *
  go_upto_region 8 with fail
  refine wp_region_still_tail 13 (by kernel_rfl) (by kernel_rfl) ?_
  simp only [List.take_succ_cons, List.take_zero, List.drop_succ_cons, List.drop_zero]
  generalize hX1 : X1.drew = X2 at *
  change wpStill _ _ (X1.drew) (fun _ => wpList _ _ _ _ _ (X1.drew)) _ _
  rw [hX1]
  repeat still_step
  refine wpStill_nil ?_
  go_wp2_with fail
  refine KP.out.mono ?_
  rintro e w3 ⟨rfl, hq, hc⟩
  have H3 := H2.out.putQ (i := 0) (by decide) HK.out HX2.out.c HF.out HPW.out HBw.out hq hc
  have HB3 := HB1.out.trans (cf_below hc (fun b i q => by
    rcases q with ⟨q, _⟩ | ⟨q, _⟩ | ⟨q, _⟩
    · rw [q]; exact qb
    · rw [q]; exact HBw.out
    · exact QB.out b q) H2.out.lts)
  have HP : Hid (HoP B T ml mh mw n s w x W (.returned (.tuple #[])) w3) := ⟨rfl, m, by
    unfold heldS
    rw [updM_id HM.out]
    exact H3.mono (Nat.le_succ _), HB3⟩
  clear H3 HB3 hq hc KP
  go_wp2
  refine bodyPost_end (v := .tuple #[]) (results_none rfl _ _ _) ?_ ?_
  · rfl
  · exact HP.out
set_option maxRecDepth 100000 in
set_option maxHeartbeats 2000000 in
theorem hold_new (h : LkAt B W T ml mh mw n s) (hx : Fw W w x) (hf : ∀ i k', i < 3 → w ∉ s.q i k') (hp : ∀ b c, s.pas b = some c → b ≠ w) (hB : B ≤ w) {K : Nat} (hk : s.lk x.k = some K) (hm : s.hm x.ow = none) (hks : x.k.size ≤ maxLen) (hwf : (Lit.int .i64 x.ow).wf = true) (hn : n + 1 < maxLen) :
    Calls Try.prog 32 #[.pointer (some ⟨T, 0, none⟩), .pointer (some ⟨w, 0, none⟩)] W (HoP B T ml mh mw n s w x W) := by
  have HD := Lib.hid (h.below (Below.refl _ _).drew)
  have HX := Lib.hid (hx.below (Below.refl _ _).drew)
  have t1 := HD.out.t1
  have c2 := HX.out.c.c2
  have c0 := HX.out.c.c0
  have l1 := HD.out.m1.look heldMap x.ow hwf
  rw [hm] at l1
  have l1 : (Instr.lookup 57 (.map (some mh)) (.int .i64 x.ow) false).run Try.prog W.drew = .ok (.map none) W.drew := l1
  have hmm := @run_makeMap Try.prog
  generalize hW1 : W.drew = W1 at *
  -- the owner's map
  have hba : Below W1.heap.size W1 (W1.alloc (.map #[] 0)) := (Below.refl _ _).alloc (Nat.le_refl _) _
  have HY := Lib.hid ((HD.out.below hba).below (Below.refl _ _).drew)
  have HXY := Lib.hid ((HX.out.below hba).below (Below.refl _ _).drew)
  have m0 : MAt sKy pV (W1.alloc (.map #[] 0)).drew W1.heap.size 0 (fun _ => none) := (MAt.made (Y := sKy) (mk := pV) W1).of_block rfl
  have y1 := HY.out.t1
  have y2 := HXY.out.c.c2
  obtain ⟨X0, hst0, hm0, hg0, hs0⟩ := HY.out.m1.store heldMap x.ow hwf W1.heap.size (by omega)
  have hst0 : (Instr.mapUpdate 57 (.map (some mh)) (.int .i64 x.ow) (.map (some W1.heap.size))).run Try.prog (W1.alloc (.map #[] 0)).drew = .ok () X0 := hst0
  have hlt1 : ∀ o' m', s.hm o' = some m' → m' ≠ W1.heap.size := fun o' m' e => by
    have := (HD.out.md o' m' e).lt
    omega
  have hne1 : W1.heap.size ≠ ml ∧ W1.heap.size ≠ mh ∧ W1.heap.size ≠ mw := by
    have q1 := HD.out.m0.lt
    have q2 := HD.out.m1.lt
    have q3 := HD.out.m2.lt
    exact ⟨by omega, by omega, by omega⟩
  have hh0 := h.hn x.ow hm
  have H0 := HY.out.addMap hm m0 hlt1 hne1 HD.out.lts hm0 hg0
  have hx0 := HXY.out.grown HY.out.m1.no_cell hg0
  have z1 : Below B W1 X0 := (hba.mono HD.out.lts).drew.trans (HY.out.grownB HY.out.bt.2.2.1 hg0)
  have hm2 : ({ s with hm := updM s.hm x.ow (some W1.heap.size) } : Lk).hm x.ow = some W1.heap.size := updM_same _ _ _
  generalize hmd : W1.heap.size = m at *
  have z0 := hx0.c.c0
  have l2 := (H0.md x.ow m hm2).look waiterMap x.k hks
  rw [show ({ s with hm := updM s.hm x.ow (some m) } : Lk).hd x.ow x.k = none from hh0 x.k] at l2
  have l2 : (Instr.lookup 73 (.map (some m)) (.string x.k) false).run Try.prog X0 = .ok (.pointer none) X0 := l2
  obtain ⟨X1, hst, hm1, hg1, hs1⟩ := (H0.md x.ow m hm2).store waiterMap x.k hks w hn
  have hst : (Instr.mapUpdate 73 (.map (some m)) (.string x.k) (.pointer (some ⟨w, 0, none⟩))).run Try.prog X0 = .ok () X1 := hst
  have h1 := H0.setHeld (z := some w) hm2 hm1 hg1
  have hx1 := hx0.grown (H0.md x.ow m hm2).no_cell hg1
  have hb1 := H0.grownB (H0.bm x.ow m hm2) hg1
  -- the lock's queue
  have H2 := Lib.hid (h1.below (Below.refl _ _).drew)
  have HX2 := Lib.hid (hx1.below (Below.refl _ _).drew)
  have u0 := H2.out.t0
  have d0 := HX2.out.c.c0
  have l3 := H2.out.m0.look lockMap x.k hks
  rw [show ({ s with hm := updM s.hm x.ow (some m), hd := updH s.hd x.ow x.k (some w) } : Lk).lk x.k = some K from hk] at l3
  have l3 : (Instr.lookup 56 (.map (some ml)) (.string x.k) false).run Try.prog X1.drew = .ok (.pointer (some ⟨K, 0, none⟩)) X1.drew := l3
  obtain ⟨v3, e3⟩ := HX2.out.c3
  obtain ⟨v4, e4⟩ := HX2.out.c4
  have KP := Lib.hid (put_any (H2.out.qa x.k K hk 0 (by decide)) (hf 0 x.k (by decide)) (H2.out.kx hk HX2.out.c).symm e3 e4 HX2.out.fz)
  have HB1 : Hid (Below B W X1.drew) := by
    have e1 : Below B W W.drew := (Below.refl _ _).drew
    rw [hW1] at e1
    exact ((e1.trans z1).trans hb1).drew
  have HF := Lib.hid hf
  have HPW := Lib.hid hp
  have HK := Lib.hid hk
  have HBw := Lib.hid hB
  have qE : ∀ (w : World) (r : Option Nat), (binOp .eql 73 (.map r) (.map none)).run Try.prog w = .ok (.bool r.isNone) w := fun w r => run_eql_map_nil w _ _ _ r Try.underlying73
  have qb := h.bk x.k K hk
  have QB := Lib.hid (fun y => h.bw 0 x.k y (by decide))
  have qE2 : ∀ (w : World) (r : Option Nat), (binOp .eql 73 (.map r) (.map none)).run Try.prog w = .ok (.bool r.isNone) w := qE
  clear h hx hf hp hk hm hm1 hg1 h1 hx1 hb1 hB e3 e4 hs1 m0 hm0 hg0 hlt1 hne1 hh0 H0 hx0 z1 hm2 qE2 hs0
  go_enter Try.func32, Try.ntmps32
  go_upto_region 0 with fail
  refine wp_region_any (by kernel_rfl) ?_
  change wpAny _ _ _ _ _ _ _ (World.drew _)
  rw [hW1]
  refine wpAny_rest 0 (by rfl) (by kernel_rfl) ?_
  simp only [List.drop_zero]
  repeat still_step
  refine wpStill_nil ?_
  go_upto_region 3 with fail
  refine wp_region_still_tail 9 (by kernel_rfl) (by kernel_rfl) ?_
  simp only [List.take_succ_cons, List.take_zero, List.drop_succ_cons, List.drop_zero]
  generalize hY1 : (W1.alloc (.map #[] 0)).drew = Y1 at *
  change wpStill _ _ ((W1.alloc (.map #[] 0)).drew) (fun _ => wpList _ _ _ _ _ ((W1.alloc (.map #[] 0)).drew)) _ _
  rw [hY1]
  repeat still_step
  refine wpStill_nil ?_
  go_upto_region 8 with fail
  refine wp_region_still_tail 13 (by kernel_rfl) (by kernel_rfl) ?_
  simp only [List.take_succ_cons, List.take_zero, List.drop_succ_cons, List.drop_zero]
  generalize hX1 : X1.drew = X2 at *
  change wpStill _ _ (X1.drew) (fun _ => wpList _ _ _ _ _ (X1.drew)) _ _
  rw [hX1]
  repeat still_step
  refine wpStill_nil ?_
  go_wp2_with fail
  refine KP.out.mono ?_
  rintro e w3 ⟨rfl, hq, hc⟩
  have H3 := H2.out.putQ (i := 0) (by decide) HK.out HX2.out.c HF.out HPW.out HBw.out hq hc
  have HB3 := HB1.out.trans (cf_below hc (fun b i q => by
    rcases q with ⟨q, _⟩ | ⟨q, _⟩ | ⟨q, _⟩
    · rw [q]; exact qb
    · rw [q]; exact HBw.out
    · exact QB.out b q) H2.out.lts)
  have HP : Hid (HoP B T ml mh mw n s w x W (.returned (.tuple #[])) w3) := ⟨rfl, m, by
    unfold heldS
    exact H3, HB3⟩
  clear H3 HB3 hq hc KP
  go_wp2
  refine bodyPost_end (v := .tuple #[]) (results_none rfl _ _ _) ?_ ?_
  · rfl
  · exact HP.out
end
end Go.Proofs.Ytgabdlnbencglaa

namespace Go.Proofs.Ytgabdlnbencglaa
open Go.RowKit Go.Maps Go.ChangeMaps Go.MapKept Go.WideElems Go.WideMaps
theorem look_nil_w (W : World) (k : ByteArray) (hk : k.size ≤ maxLen) : (Instr.lookup 73 (.map none) (.string k) false).run Try.prog W = .ok (.pointer none) W := by
  have h := look_nil (P := Try.prog) (w := W) false (string_keyed Try.underlying9) Try.underlying73 (waiterMap.z W) (keyOf_string_mk (P := Try.prog) Try.underlying9 hk)
  simpa [pV] using h
section
variable {B : Nat} {W X : World} {T ml mh mw n : Nat} {s : Lk} {w : Nat} {x : Wc}
set_option maxRecDepth 100000 in
set_option maxHeartbeats 2000000 in
theorem line_others (h : LkAt B W T ml mh mw n s) (hx : WtAt W w x) {K : Nat} (hk : s.lk x.k = some K) (hh : s.hd x.ow x.k = none) (hks : x.k.size ≤ maxLen) (hwf : (Lit.int .i64 x.ow).wf = true) :
    Calls Try.prog 33 #[.pointer (some ⟨T, 0, none⟩), .pointer (some ⟨w, 0, none⟩)] W fun e W' => e = .returned (.pointer (some ⟨K, 4, none⟩)) ∧ Below W.heap.size W W' := by
  have HD := Lib.hid (h.below (Below.refl _ _).drew)
  have HX := Lib.hid (hx.below (Below.refl _ _).drew)
  have HE := Lib.hid (HD.out.below (Below.refl _ _).drew)
  have t0 := HD.out.t0
  have c0 := HX.out.c0
  have HXE := Lib.hid (HX.out.below (Below.refl _ _).drew)
  have e0 := HXE.out.c0
  have e2 := HXE.out.c2
  have e1 := HE.out.t1
  have l3 := HD.out.m0.look lockMap x.k hks
  rw [hk] at l3
  have l3 : (Instr.lookup 56 (.map (some ml)) (.string x.k) false).run Try.prog W.drew = .ok (.pointer (some ⟨K, 0, none⟩)) W.drew := l3
  have l1 := HE.out.m1.look heldMap x.ow hwf
  have hb : Below W.heap.size W W.drew.drew := (Below.refl _ _).drew.drew
  have HB := Lib.hid hb
  have hlook : ∃ v, (Instr.lookup 57 (.map (some mh)) (.int .i64 x.ow) false).run Try.prog W.drew.drew = .ok v W.drew.drew ∧ (Instr.lookup 73 v (.string x.k) false).run Try.prog W.drew.drew = .ok (.pointer none) W.drew.drew := by
    cases hm : s.hm x.ow with
    | none => rw [hm] at l1; exact ⟨_, l1, look_nil_w _ _ hks⟩
    | some m =>
      rw [hm] at l1
      have l2 := (HE.out.md x.ow m hm).look waiterMap x.k hks
      rw [hh] at l2
      exact ⟨_, l1, l2⟩
  obtain ⟨v, l4, l5⟩ := hlook
  clear h hx l1 hk hh hb
  generalize hW2 : W.drew.drew = W2 at *
  generalize hW1 : W.drew = W1 at *
  go_enter Try.func33, Try.ntmps33
  go_upto_region 1 with fail
  refine wp_region_any (by kernel_rfl) ?_
  change wpAny _ _ _ _ _ _ _ (World.drew _)
  rw [hW1]
  refine wpAny_rest 0 (by rfl) (by kernel_rfl) ?_
  simp only [List.drop_zero]
  repeat still_step
  refine wpStill_nil ?_
  go_upto_region 2 with fail
  refine wp_region_any (by kernel_rfl) ?_
  change wpAny _ _ _ _ _ _ _ (World.drew _)
  rw [hW2]
  refine wpAny_rest 0 (by rfl) (by kernel_rfl) ?_
  simp only [List.drop_zero]
  repeat still_step
  refine wpStill_nil ?_
  go_wp2
  go_ret
  exact ⟨rfl, HB.out⟩
end
end Go.Proofs.Ytgabdlnbencglaa
