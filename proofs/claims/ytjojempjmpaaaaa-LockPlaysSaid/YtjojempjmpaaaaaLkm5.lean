/-
  A TABLE OF LOCKS: the part of a line in which a waiter stands that holds the key; leave of any waiter.
  A TABLE OF LOCKS: hold, of one that holds the key: it claims more.
  A TABLE OF LOCKS: what is consistent, and stays so.
  A TABLE OF LOCKS: what pass does, step by step; what it leaves as it was.
-/
import Derived.Test.YtjojempjmpaaaaaLkLeave
namespace Go.Proofs.Ytjojempjmpaaaaa
open Go.RowKit
section
variable {B : Nat} {W X : World} {T ml mh mw n : Nat} {s : Lk} {w : Nat} {x : Wc}
set_option maxRecDepth 100000 in
set_option maxHeartbeats 2000000 in
theorem line_readers (h : LkAt B W T ml mh mw n s) (hx : WtAt W w x) {K : Nat} (hk : s.lk x.k = some K) {h0 : Nat} (hh : s.hd x.ow x.k = some h0) (hks : x.k.size ≤ maxLen) (hwf : (Lit.int .i64 x.ow).wf = true) :
    Calls Try.prog 33 #[.pointer (some ⟨T, 0, none⟩), .pointer (some ⟨w, 0, none⟩)] W fun e W' => e = .returned (.pointer (some ⟨K, 2, none⟩)) ∧ Below W.heap.size W W' := by
  have HD := Lib.hid (h.below (Below.refl _ _).drew)
  have HX := Lib.hid (hx.below (Below.refl _ _).drew)
  have HE := Lib.hid (HD.out.below (Below.refl _ _).drew)
  have t0 := HD.out.t0
  have c0 := HX.out.c0
  have HXE := Lib.hid (HX.out.below (Below.refl _ _).drew)
  have e0 := HXE.out.c0
  have e2 := HXE.out.c2
  have e1 := HE.out.t1
  have l3 := HD.out.m0.look lockMap x.k hks
  rw [hk] at l3
  have l3 : (Instr.lookup 56 (.map (some ml)) (.string x.k) false).run Try.prog W.drew = .ok (.pointer (some ⟨K, 0, none⟩)) W.drew := l3
  have l1 := HE.out.m1.look heldMap x.ow hwf
  have hb : Below W.heap.size W W.drew.drew := (Below.refl _ _).drew.drew
  have HB := Lib.hid hb
  have hlook : ∃ v, (Instr.lookup 57 (.map (some mh)) (.int .i64 x.ow) false).run Try.prog W.drew.drew = .ok v W.drew.drew ∧ (Instr.lookup 73 v (.string x.k) false).run Try.prog W.drew.drew = .ok (.pointer (some ⟨h0, 0, none⟩)) W.drew.drew := by
    cases hm : s.hm x.ow with
    | none => exact absurd hh (by rw [h.hn x.ow hm x.k]; simp)
    | some m =>
      rw [hm] at l1
      have l2 := (HE.out.md x.ow m hm).look waiterMap x.k hks
      rw [hh] at l2
      exact ⟨_, l1, l2⟩
  obtain ⟨v, l4, l5⟩ := hlook
  clear h hx l1 hk hh hb
  generalize hW2 : W.drew.drew = W2 at *
  generalize hW1 : W.drew = W1 at *
  go_enter Try.func33, Try.ntmps33
  go_upto_region 1 with fail
  refine wp_region_any (by kernel_rfl) ?_
  change wpAny _ _ _ _ _ _ _ (World.drew _)
  rw [hW1]
  refine wpAny_rest 0 (by rfl) (by kernel_rfl) ?_
  simp only [List.drop_zero]
  repeat still_step
  refine wpStill_nil ?_
  go_upto_region 2 with fail
  refine wp_region_any (by kernel_rfl) ?_
  change wpAny _ _ _ _ _ _ _ (World.drew _)
  rw [hW2]
  refine wpAny_rest 0 (by rfl) (by kernel_rfl) ?_
  simp only [List.drop_zero]
  repeat still_step
  refine wpStill_nil ?_
  go_wp2
  go_ret
  exact ⟨rfl, HB.out⟩
end
section
variable {B : Nat} {W X : World} {T ml mh mw n : Nat} {s : Lk}
/-- What leave leaves. -/
noncomputable def leftG (s : Lk) (i : Nat) (k : ByteArray) (q : List Nat) (o : Int) : Lk := { s with q := updQ s.q i k q, wt := updM s.wt o none }
set_option maxRecDepth 100000 in
set_option maxHeartbeats 2000000 in
theorem leave_r (h : LkAt B W T ml mh mw n s) {k : ByteArray} {K w : Nat} {q1 q2 : List Nat} (hk : s.lk k = some K) (he : s.q 1 k = q1 ++ w :: q2) (hck : (s.con w).k = k) {h0 : Nat} (hh : s.hd (s.con w).ow k = some h0) (hks : k.size ≤ maxLen) (hwf : (Lit.int .i64 (s.con w).ow).wf = true) :
    Calls Try.prog 35 #[.pointer (some ⟨T, 0, none⟩), .pointer (some ⟨w, 0, none⟩)] W fun e W' => e = .returned (.tuple #[]) ∧ LkAt B W' T ml mh mw (n + 1) (leftG s 1 k (q1 ++ q2) (s.con w).ow) ∧ Fw W' w (s.con w) ∧ (∀ j k', j < 3 → w ∉ (leftG s 1 k (q1 ++ q2) (s.con w).ow).q j k') ∧ Below B W W' := by
  have hw : w ∈ s.q 1 k := by rw [he]; simp
  have KL := Lib.hid (line_readers h (h.wc 1 k w (by decide) hw) (by rw [hck]; exact hk) (by rw [hck]; exact hh) (by rw [hck]; exact hks) hwf)
  have KD := Lib.hid (fun X (hX : LkAt B X T ml mh mw n s) => drop_any (q1 := q1) (q2 := q2) (w := w) (he ▸ hX.qa k K hk 1 (by decide) : QAt X K (2 * 1) (q1 ++ w :: q2)))
  have HH := Lib.hid h
  have HK := Lib.hid hk
  have HE := Lib.hid he
  have HL := Lib.hid (h.left (i := 1) (by decide) hk he)
  clear hw h hk he hck hh hks
  go_enter Try.func35, Try.ntmps35
  go_wp2_with fail
  refine KL.out.mono ?_
  rintro e w1 ⟨rfl, hb1⟩
  have H1 := Lib.hid (HH.out.below hb1)
  have KD1 := Lib.hid (KD.out w1 H1.out)
  have HB1 := Lib.hid (hb1.mono HH.out.lts)
  clear KL hb1 KD
  go_wp2_with fail
  refine KD1.out.mono ?_
  rintro e w2 ⟨rfl, hq, hc⟩
  obtain ⟨h2, f2⟩ := H1.out.dropQ (i := 1) (by decide) HK.out HE.out hq hc
  have hb2 := HB1.out.trans (H1.out.drop_below (i := 1) (by decide) HK.out HE.out hc)
  have h3 := h2.below (Below.refl _ _).drew
  have f3 := f2.below (Below.refl _ _).drew
  have t2 := h3.t2
  have c2 := f3.c.c2
  obtain ⟨X, hst, hmX, hgX, hsX⟩ := h3.m2.drop waitsMap (s.con w).ow hwf 0
  have hst : ∀ ty, (Builtin.delete_ #[58, 3] ty #[.map (some mw), .int .i64 (s.con w).ow]).run Try.prog w2.drew = .ok (.tuple #[]) X := fun ty => hst
  have H4 := Lib.hid (h3.setWait (o := (s.con w).ow) (z := none) (hmX.mono (Nat.le_succ n)) hgX)
  have F4 := Lib.hid (f3.grown h3.m2.no_cell hgX)
  have HB4 := Lib.hid (hb2.drew.trans (h3.grownB h3.bt.2.2.2 hgX))
  clear h2 f2 hb2 h3 f3 hmX hgX hsX KD1 hq hc
  go_upto_region 1 with fail
  refine wp_region_still_tail 8 (by kernel_rfl) (by kernel_rfl) ?_
  simp only [List.take_succ_cons, List.take_zero, List.drop_succ_cons, List.drop_zero]
  generalize hX1 : w2.drew = W3 at *
  change wpStill _ _ (w2.drew) (fun _ => wpList _ _ _ _ _ (w2.drew)) _ _
  rw [hX1]
  repeat still_step
  refine wpStill_nil ?_
  go_wp2
  refine bodyPost_end (v := .tuple #[]) (results_none rfl _ _ _) ?_ ?_
  · rfl
  · exact ⟨rfl, H4.out, F4.out, HL.out, HB4.out⟩
/-- leave, of any waiter. -/
theorem leave_g {k : ByteArray} {w : Nat} (h : LkAt B W T ml mh mw n s) {i : Nat} (hi : (i = 1 ∧ s.hd (s.con w).ow k ≠ none) ∨ (i = 2 ∧ s.hd (s.con w).ow k = none)) {K : Nat} {q1 q2 : List Nat} (hk : s.lk k = some K) (he : s.q i k = q1 ++ w :: q2) (hck : (s.con w).k = k) (hks : k.size ≤ maxLen) (hwf : (Lit.int .i64 (s.con w).ow).wf = true) :
    Calls Try.prog 35 #[.pointer (some ⟨T, 0, none⟩), .pointer (some ⟨w, 0, none⟩)] W fun e W' => e = .returned (.tuple #[]) ∧ LkAt B W' T ml mh mw (n + 1) (leftG s i k (q1 ++ q2) (s.con w).ow) ∧ Fw W' w (s.con w) ∧ (∀ j k', j < 3 → w ∉ (leftG s i k (q1 ++ q2) (s.con w).ow).q j k') ∧ Below B W W' := by
  rcases hi with ⟨rfl, hh⟩ | ⟨rfl, hh⟩
  · obtain ⟨h0, e0⟩ := Option.ne_none_iff_exists'.1 hh
    exact leave_r h hk he hck e0 hks hwf
  · exact leave_any h hk he hck hh hks hwf
end
end Go.Proofs.Ytjojempjmpaaaaa

namespace Go.Proofs.Ytjojempjmpaaaaa
open Go.RowKit
section
variable {B : Nat} {W X : World} {T ml mh mw n : Nat} {s : Lk} {w : Nat} {x : Wc}
/-- What hold leaves of one that holds the key. -/
noncomputable def upS (s : Lk) (h0 : Nat) (x : Wc) : Lk := { s with con := updC s.con h0 ⟨x.k, x.wr, (s.con h0).ow⟩ }
theorem LkAt.setClaim (h : LkAt B W T ml mh mw n s) {h0 : Nat} {k : ByteArray} {c : Wc} (hm : h0 ∈ s.q 0 k) (hx : WtAt X h0 c) (hc : Cf W X (fun b i => b = h0 ∧ i < 2)) :
    LkAt B X T ml mh mw n { s with con := updC s.con h0 c } := by
  have h1 := h.wc 0 k h0 (by decide) hm
  have nT : ∀ j, ¬ (T = h0 ∧ j < 2) := fun j c => h.xT h1 c.1.symm
  have nM : ∀ {κ : Type} {Y : Ky κ} {mk : Option Nat → Value} {M n' : Nat} {o : κ → Option Nat}, MAt Y mk W M n' o → ∀ j, ¬ (M = h0 ∧ j < 2) := fun hM j c => hM.ne h1.c0 c.1
  exact { h with
    t0 := hc.cell _ _ _ (nT 0) h.t0
    t1 := hc.cell _ _ _ (nT 1) h.t1
    t2 := hc.cell _ _ _ (nT 2) h.t2
    m0 := h.m0.of_block (hc.block ml h.m0.lt (nM h.m0))
    m1 := h.m1.of_block (hc.block mh h.m1.lt (nM h.m1))
    m2 := h.m2.of_block (hc.block mw h.m2.lt (nM h.m2))
    md := fun o m e => (h.md o m e).of_block (hc.block m (h.md o m e).lt (nM (h.md o m e)))
    qa := fun k' K' e j hj => (h.qa k' K' e j hj).keep hc ⟨fun c => h.kx e h1 c.1, fun c => h.kx e h1 c.1⟩ (fun y hy => ⟨fun c => by omega, fun c => by omega⟩)
    wc := fun j k' y hj hy => by
      show WtAt X y (updC s.con h0 c y)
      unfold updC
      by_cases e : y = h0
      · rw [if_pos e, e]; exact hx
      · rw [if_neg e]; exact (h.wc j k' y hj hy).keep hc (fun _ _ c => e c.1)
    ps := h.ps.cf hc (fun b c e j c2 => h.ps.px b c 0 k h0 e (by decide) hm c2.1) }
set_option maxRecDepth 100000 in
set_option maxHeartbeats 2000000 in
theorem hold_up (h : LkAt B W T ml mh mw n s) (hx : Fw W w x) (hf : ∀ i k', i < 3 → w ∉ s.q i k') {h0 m : Nat} (hm : s.hm x.ow = some m) (hh : s.hd x.ow x.k = some h0) (hq : h0 ∈ s.q 0 x.k) (hK : (s.lk x.k).isSome = true) (hks : x.k.size ≤ maxLen) (hwf : (Lit.int .i64 x.ow).wf = true) :
    Calls Try.prog 32 #[.pointer (some ⟨T, 0, none⟩), .pointer (some ⟨w, 0, none⟩)] W fun e W' => e = .returned (.tuple #[]) ∧ LkAt B W' T ml mh mw n (upS s h0 x) ∧ Below B W W' ∧ W'.cell? ⟨w, 2, none⟩ = some (.int .i64 x.ow) := by
  have HD := Lib.hid (h.below (Below.refl _ _).drew)
  have HX := Lib.hid (hx.below (Below.refl _ _).drew)
  have t1 := HD.out.t1
  have c2 := HX.out.c.c2
  have c0 := HX.out.c.c0
  have c1 := HX.out.c.c1
  have l1 := HD.out.m1.look heldMap x.ow hwf
  rw [hm] at l1
  replace l1 : (Instr.lookup 57 (.map (some mh)) (.int .i64 x.ow) false).run Try.prog W.drew = .ok (.map (some m)) W.drew := l1
  have l2 := (HD.out.md x.ow m hm).look waiterMap x.k hks
  rw [hh] at l2
  replace l2 : (Instr.lookup 73 (.map (some m)) (.string x.k) false).run Try.prog W.drew = .ok (.pointer (some ⟨h0, 0, none⟩)) W.drew := l2
  obtain ⟨K, hK⟩ := Option.isSome_iff_exists.1 hK
  have h1 := HD.out.wc 0 x.k h0 (by decide) hq
  have z0 := h1.c0
  have z1 := h1.c1
  have hne : w ≠ h0 := fun e => hf 0 x.k (by decide) (e ▸ hq)
  have fz : ∀ i, W.drew.frozen? ⟨h0, i, none⟩ = false := (HD.out.qa x.k K hK 0 (by decide)).fq h0 hq
  have hcf : Cf W.drew ((W.drew.setCell ⟨h0, 0, none⟩ (.string x.k)).setCell ⟨h0, 1, none⟩ (.bool x.wr)) (fun b i => b = h0 ∧ i < 2) := ((Cf.refl _ _).set ⟨rfl, by decide⟩).set ⟨rfl, by decide⟩
  have hxa : WtAt ((W.drew.setCell ⟨h0, 0, none⟩ (.string x.k)).setCell ⟨h0, 1, none⟩ (.bool x.wr)) h0 ⟨x.k, x.wr, (s.con h0).ow⟩ := ⟨sc_ne (sc_eq z0) (.inr (by decide)), sc_eq (sc_ne z1 (.inr (by decide))), sc_ne (sc_ne h1.c2 (.inr (by decide))) (.inr (by decide))⟩
  have H3 := Lib.hid (HD.out.setClaim hq hxa hcf)
  have HC2 := Lib.hid (sc_ne (g := h0) (i := 1) (u := .bool x.wr) (sc_ne (g := h0) (i := 0) (u := .string x.k) c2 (.inl hne)) (.inl hne))
  have hb : Below B W W.drew := (Below.refl _ _).drew
  have hb3 : Below B W ((W.drew.setCell ⟨h0, 0, none⟩ (.string x.k)).setCell ⟨h0, 1, none⟩ (.bool x.wr)) := hb.trans (cf_below hcf (fun b i q => by rw [q.1]; exact h.bw 0 x.k h0 (by decide) hq) HD.out.lts)
  have HB3 := Lib.hid hb3
  have qE : ∀ (w : World) (r : Option Nat), (binOp .eql 73 (.map r) (.map none)).run Try.prog w = .ok (.bool r.isNone) w := fun w r => run_eql_map_nil w _ _ _ r Try.underlying73
  clear h hx hf hm hh hq hK h1 hcf hxa hb hb3
  go_enter Try.func32, Try.ntmps32
  go_upto_region 0 with fail
  refine wp_region_any (by kernel_rfl) ?_
  change wpAny _ _ _ _ _ _ _ (World.drew _)
  refine wpAny_rest 0 (by rfl) (by kernel_rfl) ?_
  simp only [List.drop_zero]
  repeat still_step
  refine wpStill_nil ?_
  generalize W.drew = W1 at *
  go_wp2_with fail
  refine bodyPost_ret (v := .tuple #[]) (results_none rfl _ _ _) ?_ ?_
  · rfl
  · exact ⟨rfl, H3.out, HB3.out, HC2.out⟩
end
end Go.Proofs.Ytjojempjmpaaaaa

namespace Go.Proofs.Ytjojempjmpaaaaa
open Go.RowKit
/-- Holders are held, waiters are waited for; holders go together. -/
structure LkOk (s : Lk) : Prop where
  h1 : ∀ o k w, s.hd o k = some w → w ∈ s.q 0 k ∧ (s.con w).ow = o
  h2 : ∀ k w, w ∈ s.q 0 k → s.hd (s.con w).ow k = some w
  ck : ∀ i k w, i < 3 → w ∈ s.q i k → (s.con w).k = k ∧ k.size ≤ 100 ∧ (Lit.int .i64 (s.con w).ow).wf = true
  w1 : ∀ o w, s.wt o = some w → (s.con w).ow = o ∧ ∃ i, (i = 1 ∨ i = 2) ∧ w ∈ s.q i (s.con w).k
  w2 : ∀ i k w, (i = 1 ∨ i = 2) → w ∈ s.q i k → s.wt (s.con w).ow = some w
  r1 : ∀ k w, w ∈ s.q 1 k → s.hd (s.con w).ow k ≠ none
  r2 : ∀ k w, w ∈ s.q 2 k → s.hd (s.con w).ow k = none
  cp : ∀ k x y, x ∈ s.q 0 k → y ∈ s.q 0 k → x ≠ y → (s.con x).wr = false
/-- Each stands in one queue. -/
def Qd (s : Lk) : Prop := ∀ i j k k' x, i < 3 → j < 3 → x ∈ s.q i k → x ∈ s.q j k' → i = j ∧ k = k'
theorem lt3 {i : Nat} (h : i = 1 ∨ i = 2) : i < 3 := by omega
theorem lkOk_none : LkOk Lk.none := ⟨fun _ _ _ h => (by cases h), fun _ _ h => (by cases h), fun _ _ _ _ h => (by cases h), fun _ _ h => (by cases h), fun _ _ _ _ h => (by cases h), fun _ _ h => (by cases h), fun _ _ h => (by cases h), fun _ _ _ h => (by cases h)⟩
theorem updH_same (f : Int → ByteArray → Option Nat) (o : Int) (k : ByteArray) (z : Option Nat) : updH f o k z o k = z := by unfold updH; rw [if_pos rfl, updM_same]
theorem updH_other (f : Int → ByteArray → Option Nat) {o o' : Int} {k k' : ByteArray} (z : Option Nat) (h : ¬ (o' = o ∧ k' = k)) : updH f o k z o' k' = f o' k' := by
  unfold updH
  by_cases e : o' = o
  · rw [if_pos e, updM_other _ _ (fun c => h ⟨e, c⟩), e]
  · rw [if_neg e]
theorem updC_same (f : Nat → Wc) (w : Nat) (x : Wc) : updC f w x w = x := by unfold updC; rw [if_pos rfl]
theorem updC_other (f : Nat → Wc) {w y : Nat} (x : Wc) (h : y ≠ w) : updC f w x y = f y := by unfold updC; rw [if_neg h]
/-- One waits no more. -/
theorem LkOk.leave {s : Lk} (h : LkOk s) (hq : Qd s) {i : Nat} {k : ByteArray} {w : Nat} {q : List Nat} (hi : i = 1 ∨ i = 2) (hw : w ∈ s.q i k) (hm : ∀ y, y ∈ q ↔ y ∈ s.q i k ∧ y ≠ w) :
    LkOk (leftG s i k q (s.con w).ow) ∧ (∀ j k' y, j < 3 → (y ∈ (leftG s i k q (s.con w).ow).q j k' ↔ y ∈ s.q j k' ∧ y ≠ w)) := by
  have mem : ∀ j k' y, j < 3 → (y ∈ (leftG s i k q (s.con w).ow).q j k' ↔ y ∈ s.q j k' ∧ y ≠ w) := fun j k' y hj => by
    show y ∈ updQ s.q i k q j k' ↔ _
    by_cases e : j = i ∧ k' = k
    · obtain ⟨rfl, rfl⟩ := e
      rw [updQ_same]; exact hm y
    · rw [updQ_other _ _ e]
      exact ⟨fun c => ⟨c, fun c2 => e (hq j i k' k y hj (lt3 hi) c (c2 ▸ hw))⟩, fun c => c.1⟩
  refine ⟨⟨fun o k' y e => ?_, fun k' y c => ?_, fun j k' y hj c => ?_, fun o y e => ?_, fun j k' y hj c => ?_, fun k' y c => ?_, fun k' y c => ?_, fun k' x y c d => ?_⟩, mem⟩
  · obtain ⟨e1, e2⟩ := h.h1 o k' y e
    refine ⟨(mem 0 k' y (by decide)).2 ⟨e1, fun c => ?_⟩, e2⟩
    have := (hq 0 i k' k y (by decide) (lt3 hi) e1 (c ▸ hw)).1
    omega
  · exact h.h2 k' y ((mem 0 k' y (by decide)).1 c).1
  · exact h.ck j k' y hj ((mem j k' y hj).1 c).1
  · have e : updM s.wt (s.con w).ow none o = some y := e
    rcases updM_cases e with ⟨_, c⟩ | ⟨c, d⟩
    · cases c
    · obtain ⟨e1, j, hj, e2⟩ := h.w1 o y d
      exact ⟨e1, j, hj, (mem j _ y (lt3 hj)).2 ⟨e2, fun c2 => c (by rw [← e1, c2])⟩⟩
  · obtain ⟨c1, c2⟩ := (mem j k' y (lt3 hj)).1 c
    have e1 := h.w2 j k' y hj c1
    show updM s.wt (s.con w).ow none (s.con y).ow = some y
    rw [updM_other _ _ (fun e => c2 (by
      have e3 := h.w2 i k w hi hw
      rw [← e, e1] at e3
      exact Option.some.inj e3))]
    exact e1
  · exact h.r1 k' y ((mem 1 k' y (by decide)).1 c).1
  · exact h.r2 k' y ((mem 2 k' y (by decide)).1 c).1
  · exact h.cp k' x y ((mem 0 k' x (by decide)).1 c).1 ((mem 0 k' y (by decide)).1 d).1
/-- Holders that are free for a claim: it goes together with all others. -/
theorem endsL_two {q : List Nat} {x : Nat} (hx : x ∈ q) : ∃ a b, endsL q = [a, b] ∧ a ∈ q ∧ b ∈ q ∧ (a = b → q.Nodup → q = [a]) := by
  unfold endsL
  cases hh : q.head? with
  | none => rw [List.head?_eq_none_iff.1 hh] at hx; cases hx
  | some a =>
    cases hl : q.getLast? with
    | none => rw [List.getLast?_eq_none_iff.1 hl] at hx; cases hx
    | some b =>
      refine ⟨a, b, rfl, List.mem_of_head? hh, List.mem_of_getLast? hl, fun e hn => ?_⟩
      subst e
      cases q with
      | nil => cases hx
      | cons z t =>
        simp at hh
        subst hh
        cases t with
        | nil => rfl
        | cons y r =>
          exfalso
          rw [List.getLast?_cons_cons] at hl
          exact (List.nodup_cons.1 hn).1 (List.mem_of_getLast? hl)
theorem LkOk.free {s : Lk} (h : LkOk s) {k : ByteArray} {x : Wc} (hn : (s.q 0 k).Nodup) (hf : freeB s.con x (s.q 0 k) = true) {y : Nat} (hy : y ∈ s.q 0 k) (ho : (s.con y).ow ≠ x.ow) : x.wr = false ∧ (s.con y).wr = false := by
  obtain ⟨a, b, e, ha, hb, hab⟩ := endsL_two hy
  have hf2 : clash x (s.con a) = false ∧ clash x (s.con b) = false := by
    unfold freeB at hf
    rw [e] at hf
    simp at hf
    exact hf
  have cl : ∀ z, clash x (s.con z) = false → (s.con z).ow ≠ x.ow → x.wr = false ∧ (s.con z).wr = false := fun z hz hzo => by
    unfold clash at hz
    rw [decide_eq_false hzo] at hz
    simp at hz
    exact hz
  by_cases hxa : (s.con a).ow = x.ow
  · by_cases hxb : (s.con b).ow = x.ow
    · have e1 := h.h2 k a ha
      have e2 := h.h2 k b hb
      rw [hxa] at e1
      rw [hxb, e1] at e2
      have hq := hab (Option.some.inj e2) hn
      rw [hq] at hy
      rw [List.mem_singleton.1 hy] at ho
      exact absurd hxa ho
    · have c := cl b hf2.2 hxb
      refine ⟨c.1, ?_⟩
      by_cases e : y = b
      · rw [e]; exact c.2
      · exact h.cp k y b hy hb e
  · have c := cl a hf2.1 hxa
    refine ⟨c.1, ?_⟩
    by_cases e : y = a
    · rw [e]; exact c.2
    · exact h.cp k y a hy ha e
theorem freeB_all {con : Nat → Wc} {x : Wc} {q : List Nat} (h : ∀ y, y ∈ q → clash x (con y) = false) : freeB con x q = true := by
  unfold freeB
  rw [Bool.not_eq_true', List.any_eq_false]
  intro z hz
  rw [h z (endsL_mem hz)]; decide
/-- One comes to hold a key of which it holds nothing. -/
theorem LkOk.held {s : Lk} (h : LkOk s) {m w : Nat} {x : Wc} (hn : (s.q 0 x.k).Nodup) (hw : ∀ i k', i < 3 → w ∉ s.q i k') (hh : s.hd x.ow x.k = Option.none) (ht : s.wt x.ow = Option.none) (hf : freeB s.con x (s.q 0 x.k) = true) (hk : x.k.size ≤ 100) (hwf : (Lit.int .i64 x.ow).wf = true) :
    LkOk (heldS s m w x) ∧ (∀ j k' y, j < 3 → (y ∈ (heldS s m w x).q j k' ↔ y ∈ s.q j k' ∨ (y = w ∧ j = 0 ∧ k' = x.k))) := by
  have mem : ∀ j k' y, j < 3 → (y ∈ (heldS s m w x).q j k' ↔ y ∈ s.q j k' ∨ (y = w ∧ j = 0 ∧ k' = x.k)) := fun j k' y hj => by
    show y ∈ updQ s.q 0 x.k (s.q 0 x.k ++ [w]) j k' ↔ _
    by_cases e : j = 0 ∧ k' = x.k
    · obtain ⟨rfl, rfl⟩ := e
      rw [updQ_same, List.mem_append, List.mem_singleton]
      simp
    · rw [updQ_other _ _ e]
      exact ⟨.inl, fun c => c.elim id (fun c => absurd c.2 e)⟩
  have cn : ∀ y, y ≠ w → (heldS s m w x).con y = s.con y := fun y e => updC_other _ _ e
  have cw : (heldS s m w x).con w = x := updC_same _ _ _
  have ne : ∀ {j k' y}, j < 3 → y ∈ s.q j k' → y ≠ w := fun {j k' y} hj c e => hw j k' hj (e ▸ c)
  have fr : ∀ y, y ∈ s.q 0 x.k → x.wr = false ∧ (s.con y).wr = false := fun y hy => h.free hn hf hy (fun e => by
    have := h.h2 x.k y hy
    rw [e, hh] at this; cases this)
  refine ⟨⟨fun o k' y e => ?_, fun k' y c => ?_, fun j k' y hj c => ?_, fun o y e => ?_, fun j k' y hj c => ?_, fun k' y c => ?_, fun k' y c => ?_, fun k' y z c d hyz => ?_⟩, mem⟩
  · have e : updH s.hd x.ow x.k (some w) o k' = some y := e
    by_cases c : o = x.ow ∧ k' = x.k
    · obtain ⟨rfl, rfl⟩ := c
      rw [updH_same] at e
      obtain rfl := Option.some.inj e
      exact ⟨(mem 0 _ _ (by decide)).2 (.inr ⟨rfl, rfl, rfl⟩), by rw [cw]⟩
    · rw [updH_other _ _ c] at e
      obtain ⟨e1, e2⟩ := h.h1 o k' y e
      exact ⟨(mem 0 _ _ (by decide)).2 (.inl e1), by rw [cn y (ne (by decide) e1)]; exact e2⟩
  · show updH s.hd x.ow x.k (some w) _ k' = some y
    rcases (mem 0 k' y (by decide)).1 c with c | ⟨rfl, _, rfl⟩
    · have e1 := h.h2 k' y c
      rw [cn y (ne (by decide) c), updH_other _ _ (fun c2 => by rw [c2.1, c2.2, hh] at e1; cases e1)]
      exact e1
    · rw [cw, updH_same]
  · rcases (mem j k' y hj).1 c with c | ⟨rfl, _, rfl⟩
    · rw [cn y (ne hj c)]; exact h.ck j k' y hj c
    · rw [cw]; exact ⟨rfl, hk, hwf⟩
  · obtain ⟨e1, j, hj, e2⟩ := h.w1 o y e
    rw [cn y (ne (lt3 hj) e2)]
    exact ⟨e1, j, hj, (mem j _ y (lt3 hj)).2 (.inl e2)⟩
  · rcases (mem j k' y (lt3 hj)).1 c with c | ⟨_, c, _⟩
    · rw [cn y (ne (lt3 hj) c)]; exact h.w2 j k' y hj c
    · omega
  · rcases (mem 1 k' y (by decide)).1 c with c | ⟨_, c, _⟩
    · rw [cn y (ne (by decide) c)]
      show updH s.hd x.ow x.k (some w) _ k' ≠ Option.none
      by_cases c2 : (s.con y).ow = x.ow ∧ k' = x.k
      · rw [c2.1, c2.2, updH_same]; simp
      · rw [updH_other _ _ c2]; exact h.r1 k' y c
    · cases c
  · rcases (mem 2 k' y (by decide)).1 c with c | ⟨_, c, _⟩
    · rw [cn y (ne (by decide) c)]
      show updH s.hd x.ow x.k (some w) _ k' = Option.none
      rw [updH_other _ _ (fun c2 => by
        have := h.w2 2 k' y (.inr rfl) c
        rw [c2.1, ht] at this; cases this)]
      exact h.r2 k' y c
    · cases c
  · rcases (mem 0 k' y (by decide)).1 c with c1 | ⟨rfl, _, rfl⟩
    · rw [cn y (ne (by decide) c1)]
      rcases (mem 0 k' z (by decide)).1 d with d1 | ⟨rfl, _, rfl⟩
      · exact h.cp k' y z c1 d1 hyz
      · exact (fr y c1).2
    · rw [cw]
      rcases (mem 0 _ z (by decide)).1 d with d | ⟨rfl, _, _⟩
      · exact (fr z d).1
      · exact absurd rfl hyz
/-- One that holds a key claims more. -/
theorem LkOk.up {s : Lk} (h : LkOk s) {h0 : Nat} {x : Wc} (hn : (s.q 0 x.k).Nodup) (hh : s.hd x.ow x.k = some h0) (hf : freeB s.con x (s.q 0 x.k) = true) (hq : Qd s) : LkOk (upS s h0 x) := by
  obtain ⟨m0, o0⟩ := h.h1 _ _ _ hh
  have k0 := (h.ck 0 _ _ (by decide) m0).1
  have ow : ∀ y, ((upS s h0 x).con y).ow = (s.con y).ow := fun y => by
    show (updC s.con h0 _ y).ow = _
    by_cases e : y = h0
    · rw [e, updC_same]
    · rw [updC_other _ _ e]
  have kk : ∀ y, ((upS s h0 x).con y).k = (s.con y).k := fun y => by
    show (updC s.con h0 _ y).k = _
    by_cases e : y = h0
    · rw [e, updC_same, k0]
    · rw [updC_other _ _ e]
  refine ⟨fun o k' y e => ?_, fun k' y c => ?_, fun j k' y hj c => ?_, fun o y e => ?_, fun j k' y hj c => ?_, fun k' y c => ?_, fun k' y c => ?_, fun k' y z c d hyz => ?_⟩
  · rw [ow]; exact h.h1 o k' y e
  · rw [ow]; exact h.h2 k' y c
  · rw [ow, kk]; exact h.ck j k' y hj c
  · rw [ow, kk]; exact h.w1 o y e
  · rw [ow]; exact h.w2 j k' y hj c
  · rw [ow]; exact h.r1 k' y c
  · rw [ow]; exact h.r2 k' y c
  · show (updC s.con h0 _ y).wr = false
    by_cases e : y = h0
    · rw [e, updC_same]
      subst e
      have ek : k' = x.k := (hq 0 0 k' x.k y (by decide) (by decide) c m0).2
      subst ek
      refine (h.free hn hf d (fun e2 => hyz ?_)).1
      have e3 := h.h2 _ z d
      rw [e2, hh] at e3
      exact Option.some.inj e3
    · rw [updC_other _ _ e]; exact h.cp k' y z c d hyz
end Go.Proofs.Ytjojempjmpaaaaa

namespace Go.Proofs.Ytjojempjmpaaaaa
open Go.RowKit
structure LkC (s : Lk) : Prop where
  ok : LkOk s
  qd : Qd s
  nd : ∀ i k, i < 3 → (s.q i k).Nodup
  q3 : ∀ i k, 3 ≤ i → s.q i k = []
theorem LkAt.qdS {B : Nat} {W : World} {T ml mh mw n : Nat} {s : Lk} (h : LkAt B W T ml mh mw n s) : Qd s := h.qd
theorem LkAt.ndS {B : Nat} {W : World} {T ml mh mw n : Nat} {s : Lk} (h : LkAt B W T ml mh mw n s) : ∀ i k, i < 3 → (s.q i k).Nodup := fun i k hi => by
  cases e : s.lk k with
  | none => rw [h.qn k e i]; exact List.nodup_nil
  | some K => exact (h.qa k K e i hi).nd
/-- What is told of a key stays. -/
structure SameAt (s s' : Lk) (k : ByteArray) : Prop where
  q : ∀ i, i < 3 → s'.q i k = s.q i k
  c : ∀ i y, i < 3 → y ∈ s.q i k → s'.con y = s.con y
  l : s'.lk k = s.lk k
theorem SameAt.refl (s : Lk) (k : ByteArray) : SameAt s s k := ⟨fun _ _ => rfl, fun _ _ _ _ => rfl, rfl⟩
theorem SameAt.trans {s s1 s2 : Lk} {k : ByteArray} (h : SameAt s s1 k) (g : SameAt s1 s2 k) : SameAt s s2 k :=
  ⟨fun i hi => (g.q i hi).trans (h.q i hi), fun i y hi hy => (g.c i y hi (by rw [h.q i hi]; exact hy)).trans (h.c i y hi hy), g.l.trans h.l⟩
/-- The first waiter isn't free. -/
def Stuck (k : ByteArray) (s : Lk) : Prop := ∀ w, (s.q 1 k ++ s.q 2 k).head? = some w → freeB s.con (s.con w) (s.q 0 k) = false
/-- Between acts: a lock is held, its first waiter isn't free. -/
structure Settled (k : ByteArray) (s : Lk) : Prop where
  l : s.lk k ≠ none → s.q 0 k ≠ []
  f : Stuck k s
theorem freeB_congr {con con' : Nat → Wc} {x : Wc} {q : List Nat} (h : ∀ y, y ∈ q → con' y = con y) : freeB con' x q = freeB con x q := by
  unfold freeB
  congr 1
  have : ∀ l : List Nat, (∀ y, y ∈ l → y ∈ q) → (l.any fun z => clash x (con' z)) = l.any fun z => clash x (con z) := fun l => by
    induction l with
    | nil => intro _; rfl
    | cons a t ih =>
      intro hl
      rw [List.any_cons, List.any_cons, ih (fun y hy => hl y (List.mem_cons_of_mem _ hy)), h a (hl a (List.mem_cons_self ..))]
  exact this _ (fun y hy => endsL_mem hy)
theorem Settled.of {s s' : Lk} {k : ByteArray} (h : Settled k s) (g : SameAt s s' k) : Settled k s' := by
  refine ⟨fun e => ?_, fun w e => ?_⟩
  · rw [g.q 0 (by decide)]
    exact h.l (fun c => e (by rw [g.l, c]))
  · rw [g.q 1 (by decide), g.q 2 (by decide)] at e
    have hm : w ∈ s.q 1 k ++ s.q 2 k := List.mem_of_head? e
    have hc : s'.con w = s.con w := by
      rcases List.mem_append.1 hm with c | c
      · exact g.c 1 w (by decide) c
      · exact g.c 2 w (by decide) c
    rw [g.q 0 (by decide), hc, freeB_congr (fun y hy => g.c 0 y (by decide) hy)]
    exact h.f w e
/-- One that waits comes to hold its key. -/
inductive Step (k : ByteArray) (s : Lk) (w : Nat) : Lk → Prop
  | up (r : List Nat) (h0 : Nat) : s.q 1 k = w :: r → s.hd (s.con w).ow k = some h0 → freeB s.con (s.con w) (s.q 0 k) = true → Step k s w (upS (leftG s 1 k r (s.con w).ow) h0 (s.con w))
  | new (r : List Nat) (m : Nat) : s.q 1 k = [] → s.q 2 k = w :: r → freeB s.con (s.con w) (s.q 0 k) = true → Step k s w (heldS (leftG s 2 k r (s.con w).ow) m w (s.con w))
inductive PassK (k : ByteArray) (s : Lk) : List Int → Lk → Prop
  | nil : PassK k s [] s
  | snoc {os : List Int} {s1 s2 : Lk} {w : Nat} : PassK k s os s1 → Step k s1 w s2 → PassK k s (os ++ [(s1.con w).ow]) s2
noncomputable def finS (s : Lk) (k : ByteArray) : Lk := { s with lk := if s.q 0 k = [] then updM s.lk k none else s.lk }
inductive PassL (s : Lk) : List ByteArray → List Int → Lk → Prop
  | nil : PassL s [] [] s
  | snoc {ks : List ByteArray} {os o2 : List Int} {k : ByteArray} {s1 s2 : Lk} : PassL s ks os s1 → PassK k s1 o2 s2 → Stuck k s2 → PassL s (ks ++ [k]) (os ++ o2) (finS s2 k)
/-- At most so many wait. -/
def Wn (s : Lk) (c : Nat) : Prop := ∃ L : List Nat, L.length ≤ c ∧ ∀ i k w, (i = 1 ∨ i = 2) → w ∈ s.q i k → w ∈ L
/-- What passing leaves: of other keys all; nobody waits that didn't. -/
structure Passed (P : ByteArray → Prop) (s s' : Lk) : Prop where
  oth : ∀ k, ¬ P k → SameAt s s' k
  sub : ∀ i k y, (i = 1 ∨ i = 2) → y ∈ s'.q i k → y ∈ s.q i k
  ow : ∀ y, (s'.con y).ow = (s.con y).ow
  hs : ∀ k y, y ∈ s'.q 0 k → ∃ i, i < 3 ∧ y ∈ s.q i k
  wt : ∀ o, s.wt o = none → s'.wt o = none
  lk : ∀ k, s.lk k = none → s'.lk k = none
theorem Passed.refl (P : ByteArray → Prop) (s : Lk) : Passed P s s := ⟨fun k _ => SameAt.refl s k, fun _ _ _ _ h => h, fun _ => rfl, fun _ _ h => ⟨0, by decide, h⟩, fun _ h => h, fun _ h => h⟩
theorem Passed.trans {P P' : ByteArray → Prop} {s s1 s2 : Lk} (h : Passed P s s1) (g : Passed P' s1 s2) : Passed (fun k => P k ∨ P' k) s s2 :=
  ⟨fun k hk => (h.oth k (fun c => hk (.inl c))).trans (g.oth k (fun c => hk (.inr c))), fun i k y hi hy => h.sub i k y hi (g.sub i k y hi hy), fun y => (g.ow y).trans (h.ow y), fun k y hy => by
    obtain ⟨i, hi, e⟩ := g.hs k y hy
    by_cases e0 : i = 0
    · subst e0; exact h.hs k y e
    · exact ⟨i, hi, h.sub i k y (by omega) e⟩, fun o e => g.wt o (h.wt o e), fun k e => g.lk k (h.lk k e)⟩
theorem Passed.mono {P P' : ByteArray → Prop} {s s' : Lk} (h : Passed P s s') (hp : ∀ k, P k → P' k) : Passed P' s s' :=
  { h with oth := fun k hk => h.oth k (fun c => hk (hp k c)) }
theorem nd_cons {q : List Nat} {w : Nat} {r : List Nat} (hn : q.Nodup) (e : q = w :: r) : ∀ y, y ∈ r ↔ y ∈ q ∧ y ≠ w := fun y => by
  subst e
  have h1 := List.nodup_cons.1 hn
  constructor
  · intro h; exact ⟨List.mem_cons_of_mem _ h, fun c => h1.1 (c ▸ h)⟩
  · intro h; exact (List.mem_cons.1 h.1).resolve_left h.2
theorem LkC.leave {s : Lk} (h : LkC s) {i : Nat} {k : ByteArray} {w : Nat} {q : List Nat} (hi : i = 1 ∨ i = 2) (hw : w ∈ s.q i k) (hm : ∀ y, y ∈ q ↔ y ∈ s.q i k ∧ y ≠ w) (hn : q.Nodup) :
    LkC (leftG s i k q (s.con w).ow) ∧ (∀ j k' y, j < 3 → (y ∈ (leftG s i k q (s.con w).ow).q j k' ↔ y ∈ s.q j k' ∧ y ≠ w)) := by
  obtain ⟨h1, mem⟩ := h.ok.leave h.qd hi hw hm
  refine ⟨⟨h1, fun a b k1 k2 x ha hb e1 e2 => h.qd a b k1 k2 x ha hb ((mem a k1 x ha).1 e1).1 ((mem b k2 x hb).1 e2).1, fun j k' hj => ?_, fun j k' hj => ?_⟩, mem⟩
  show (updQ s.q i k q j k').Nodup
  by_cases e : j = i ∧ k' = k
  · obtain ⟨rfl, rfl⟩ := e
    rw [updQ_same]; exact hn
  · rw [updQ_other _ _ e]; exact h.nd j k' hj
  · exact (updQ_other _ _ (fun c => by omega)).trans (h.q3 j k' hj)
theorem LkC.held {s : Lk} (h : LkC s) {m w : Nat} {x : Wc} (hw : ∀ i k', i < 3 → w ∉ s.q i k') (hh : s.hd x.ow x.k = Option.none) (ht : s.wt x.ow = Option.none) (hf : freeB s.con x (s.q 0 x.k) = true) (hk : x.k.size ≤ 100) (hwf : (Lit.int .i64 x.ow).wf = true) :
    LkC (heldS s m w x) ∧ (∀ j k' y, j < 3 → (y ∈ (heldS s m w x).q j k' ↔ y ∈ s.q j k' ∨ (y = w ∧ j = 0 ∧ k' = x.k))) := by
  obtain ⟨h1, mem⟩ := h.ok.held (m := m) (h.nd 0 x.k (by decide)) hw hh ht hf hk hwf
  refine ⟨⟨h1, fun a b k1 k2 y ha hb e1 e2 => ?_, fun j k' hj => ?_, fun j k' hj => ?_⟩, mem⟩
  · rcases (mem a k1 y ha).1 e1 with c1 | ⟨c1, c2, c3⟩ <;> rcases (mem b k2 y hb).1 e2 with d1 | ⟨d1, d2, d3⟩
    · exact h.qd a b k1 k2 y ha hb c1 d1
    · exact absurd (d1 ▸ c1) (hw a k1 ha)
    · exact absurd (c1 ▸ d1) (hw b k2 hb)
    · exact ⟨by omega, by rw [c3, d3]⟩
  · show (updQ s.q 0 x.k (s.q 0 x.k ++ [w]) j k').Nodup
    by_cases e : j = 0 ∧ k' = x.k
    · obtain ⟨rfl, rfl⟩ := e
      rw [updQ_same, List.nodup_append]
      exact ⟨h.nd 0 _ (by decide), by simp, fun a ha b hb e => hw 0 x.k (by decide) (by rw [List.mem_singleton.1 hb] at e; rw [← e]; exact ha)⟩
    · rw [updQ_other _ _ e]; exact h.nd j k' hj
  · exact (updQ_other _ _ (fun c => by omega)).trans (h.q3 j k' hj)
theorem LkC.up {s : Lk} (h : LkC s) {h0 : Nat} {x : Wc} (hh : s.hd x.ow x.k = some h0) (hf : freeB s.con x (s.q 0 x.k) = true) : LkC (upS s h0 x) :=
  ⟨h.ok.up (h.nd 0 _ (by decide)) hh hf h.qd, h.qd, h.nd, h.q3⟩
theorem leftG_q {s : Lk} {i : Nat} {k : ByteArray} {q : List Nat} {o : Int} {j : Nat} {k' : ByteArray} (h : ¬ (j = i ∧ k' = k)) : (leftG s i k q o).q j k' = s.q j k' := updQ_other _ _ h
theorem head_of {a b : List Nat} {w : Nat} (h : (a ++ b).head? = some w) : (∃ r, a = w :: r) ∨ (a = [] ∧ ∃ r, b = w :: r) := by
  cases a with
  | cons z r => left; simp at h; exact ⟨r, by rw [h]⟩
  | nil =>
    right
    refine ⟨rfl, ?_⟩
    cases b with
    | nil => simp at h
    | cons z r => simp at h; exact ⟨r, by rw [h]⟩
/-- A step. -/
theorem Step.all {k : ByteArray} {s s' : Lk} {w : Nat} (h : LkC s) (hs : Step k s w s') :
    LkC s' ∧ Passed (· = k) s s' ∧ (∃ i, (i = 1 ∨ i = 2) ∧ w ∈ s.q i k) ∧ (∀ i k', (i = 1 ∨ i = 2) → w ∉ s'.q i k') := by
  cases hs with
  | up r h0 e1 e2 e3 =>
    have hw : w ∈ s.q 1 k := by rw [e1]; exact List.mem_cons_self ..
    obtain ⟨g1, mem⟩ := h.leave (i := 1) (.inl rfl) hw (nd_cons (h.nd 1 k (by decide)) e1) (by have := h.nd 1 k (by decide); rw [e1] at this; exact (List.nodup_cons.1 this).2)
    have ck := (h.ok.ck 1 k w (by decide) hw).1
    have q0 : (leftG s 1 k r (s.con w).ow).q 0 k = s.q 0 k := leftG_q (fun c => by cases c.1)
    have m0 := h.ok.h1 _ _ _ e2
    refine ⟨g1.up (h0 := h0) (by rw [ck]; exact e2) (by rw [ck, q0]; exact e3), ⟨fun k' hk => ?_, fun i k' y hi hy => ((mem i k' y (lt3 hi)).1 hy).1, fun y => ?_, fun k' y hy => ⟨0, by decide, ((mem 0 k' y (by decide)).1 hy).1⟩, fun o e => ?_, fun k' e => e⟩, ⟨1, .inl rfl, hw⟩, fun i k' hi hy => ((mem i k' w (lt3 hi)).1 hy).2 rfl⟩
    · refine ⟨fun i hi => leftG_q (o := (s.con w).ow) (fun c => hk c.2), fun i y hi hy => updC_other _ _ (fun c => hk ?_), rfl⟩
      exact (h.qd i 0 k' k y hi (by decide) hy (c ▸ m0.1)).2
    · show (updC s.con h0 _ y).ow = _
      by_cases c : y = h0
      · rw [c, updC_same]; rfl
      · rw [updC_other _ _ c]
    · show updM s.wt (s.con w).ow none o = none
      by_cases c : o = (s.con w).ow
      · rw [c, updM_same]
      · rw [updM_other _ _ c]; exact e
  | new r m e1 e2 e3 =>
    have hw : w ∈ s.q 2 k := by rw [e2]; exact List.mem_cons_self ..
    obtain ⟨g1, mem⟩ := h.leave (i := 2) (.inr rfl) hw (nd_cons (h.nd 2 k (by decide)) e2) (by have := h.nd 2 k (by decide); rw [e2] at this; exact (List.nodup_cons.1 this).2)
    obtain ⟨ck, ks, wf⟩ := h.ok.ck 2 k w (by decide) hw
    have q0 : (leftG s 2 k r (s.con w).ow).q 0 k = s.q 0 k := leftG_q (fun c => by cases c.1)
    obtain ⟨g2, mem2⟩ := g1.held (m := m) (w := w) (x := s.con w) (fun i k' hi c => ((mem i k' w hi).1 c).2 rfl) (by rw [ck]; exact h.ok.r2 k w hw) (updM_same _ _ _) (by rw [ck, q0]; exact e3) (by rw [ck]; exact ks) wf
    refine ⟨g2, ⟨fun k' hk => ?_, fun i k' y hi hy => ?_, fun y => ?_, fun k' y hy => ?_, fun o e => ?_, fun k' e => e⟩, ⟨2, .inr rfl, hw⟩, fun i k' hi hy => ?_⟩
    · refine ⟨fun i hi => ?_, fun i y hi hy => updC_other _ _ (fun c => hk ?_), rfl⟩
      · show updQ (leftG s 2 k r (s.con w).ow).q 0 (s.con w).k _ i k' = _
        rw [updQ_other _ _ (fun c => hk (by rw [c.2, ck]))]
        exact leftG_q (o := (s.con w).ow) (fun c => hk c.2)
      · exact (h.qd i 2 k' k y hi (by decide) hy (c ▸ hw)).2
    · rcases (mem2 i k' y (lt3 hi)).1 hy with c | ⟨_, c, _⟩
      · exact ((mem i k' y (lt3 hi)).1 c).1
      · omega
    · show (updC s.con w (s.con w) y).ow = _
      by_cases c : y = w
      · rw [c, updC_same]
      · rw [updC_other _ _ c]
    · rcases (mem2 0 k' y (by decide)).1 hy with c | ⟨c, _, c2⟩
      · exact ⟨0, by decide, ((mem 0 k' y (by decide)).1 c).1⟩
      · rw [c2, ck, c]; exact ⟨2, by decide, hw⟩
    · show updM s.wt (s.con w).ow none o = none
      by_cases c : o = (s.con w).ow
      · rw [c, updM_same]
      · rw [updM_other _ _ c]; exact e
    · rcases (mem2 i k' w (lt3 hi)).1 hy with c | ⟨_, c, _⟩
      · exact ((mem i k' w (lt3 hi)).1 c).2 rfl
      · omega
theorem Wn.step {k : ByteArray} {s s' : Lk} {w c : Nat} (hc : Wn s c) (h : LkC s) (hs : Step k s w s') : 1 ≤ c ∧ Wn s' (c - 1) := by
  obtain ⟨L, hl, hL⟩ := hc
  obtain ⟨_, p, ⟨i, hi, hw⟩, hn⟩ := hs.all h
  have hwL := hL i k w hi hw
  have hle := List.length_erase_of_mem hwL
  have hp := List.length_pos_of_mem hwL
  refine ⟨by omega, L.erase w, by omega, fun j k' y hj hy => (List.mem_erase_of_ne (fun e => by rw [e] at hy; exact hn j k' hj hy)).2 (hL j k' y hj (p.sub j k' y hj hy))⟩
theorem PassK.all {k : ByteArray} {s s' : Lk} {os : List Int} {c : Nat} (h : LkC s) (hc : Wn s c) (hs : PassK k s os s') : LkC s' ∧ Passed (· = k) s s' ∧ os.length ≤ c ∧ Wn s' (c - os.length) := by
  induction hs with
  | nil => exact ⟨h, Passed.refl _ _, Nat.zero_le _, hc⟩
  | snoc _ st ih =>
    obtain ⟨g1, g2, g3, g4⟩ := ih
    obtain ⟨f1, f2, _, _⟩ := st.all g1
    obtain ⟨f3, f4⟩ := g4.step g1 st
    refine ⟨f1, (g2.trans f2).mono (fun _ c => c.elim id id), ?_, ?_⟩
    · rw [List.length_append, List.length_singleton]; omega
    · rw [List.length_append, List.length_singleton, ← Nat.sub_sub]; exact f4
theorem finS_all {s : Lk} (h : LkC s) (k : ByteArray) (hs : Stuck k s) : LkC (finS s k) ∧ Passed (· = k) s (finS s k) ∧ Settled k (finS s k) := by
  refine ⟨⟨⟨h.ok.h1, h.ok.h2, h.ok.ck, h.ok.w1, h.ok.w2, h.ok.r1, h.ok.r2, h.ok.cp⟩, h.qd, h.nd, h.q3⟩, ⟨fun k' hk => ⟨fun _ _ => rfl, fun _ _ _ _ => rfl, ?_⟩, fun _ _ _ _ e => e, fun _ => rfl, fun _ _ e => ⟨0, by decide, e⟩, fun _ e => e, fun k' e => ?_⟩, ⟨fun e => ?_, hs⟩⟩
  · show (if s.q 0 k = [] then updM s.lk k none else s.lk) k' = _
    split
    · exact updM_other _ _ hk
    · rfl
  · show (if s.q 0 k = [] then updM s.lk k none else s.lk) k' = _
    split
    · by_cases c : k' = k
      · rw [c, updM_same]
      · rw [updM_other _ _ c]; exact e
    · exact e
  · intro e0
    have e0 : s.q 0 k = [] := e0
    apply e
    show (if s.q 0 k = [] then updM s.lk k none else s.lk) k = _
    rw [if_pos e0, updM_same]
theorem PassL.all {s s' : Lk} {ks : List ByteArray} {os : List Int} {c : Nat} (h : LkC s) (hc : Wn s c) (hs : PassL s ks os s') (hn : ks.Nodup) : LkC s' ∧ Passed (· ∈ ks) s s' ∧ os.length ≤ c ∧ Wn s' (c - os.length) ∧ ∀ k, k ∈ ks → Settled k s' := by
  induction hs with
  | nil => exact ⟨h, Passed.refl _ _, Nat.zero_le _, hc, fun _ e => by cases e⟩
  | snoc _ pk st ih =>
    rename_i ks os o2 k s1 s2 _
    rw [List.nodup_append] at hn
    obtain ⟨g1, g2, g3, g4, g5⟩ := ih hn.1
    obtain ⟨f1, f2, f3, f4⟩ := pk.all g1 g4
    obtain ⟨e1, e2, e3⟩ := finS_all f1 k st
    have p2 : Passed (· = k) s1 (finS s2 k) := (f2.trans e2).mono (fun _ c => c.elim id id)
    refine ⟨e1, (g2.trans p2).mono (fun x c => List.mem_append.2 (c.imp id (fun c => List.mem_singleton.2 c))), ?_, ?_, fun x hx => ?_⟩
    · rw [List.length_append]; omega
    · rw [List.length_append, ← Nat.sub_sub]; exact f4
    · by_cases c : x = k
      · rw [c]; exact e3
      · rcases List.mem_append.1 hx with q | q
        · exact (g5 x q).of (p2.oth x c)
        · exact absurd (List.mem_singleton.1 q) c
end Go.Proofs.Ytjojempjmpaaaaa
