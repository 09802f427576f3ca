/-
  A TABLE OF LOCKS: hold, of one that holds the key: it claims more.
  A TABLE OF LOCKS: what is consistent, and stays so.
-/
import Derived.Test.YtgabdlnbencglaaLkLineR
namespace Go.Proofs.Ytgabdlnbencglaa
open Go.RowKit
section
variable {B : Nat} {W X : World} {T ml mh mw n : Nat} {s : Lk} {w : Nat} {x : Wc}
/-- What hold leaves of one that holds the key. -/
noncomputable def upS (s : Lk) (h0 : Nat) (x : Wc) : Lk := { s with con := updC s.con h0 ⟨x.k, x.wr, (s.con h0).ow⟩ }
theorem LkAt.setClaim (h : LkAt B W T ml mh mw n s) {h0 : Nat} {k : ByteArray} {c : Wc} (hm : h0 ∈ s.q 0 k) (hx : WtAt X h0 c) (hc : Cf W X (fun b i => b = h0 ∧ i < 2)) :
    LkAt B X T ml mh mw n { s with con := updC s.con h0 c } := by
  have h1 := h.wc 0 k h0 (by decide) hm
  have nT : ∀ j, ¬ (T = h0 ∧ j < 2) := fun j c => h.xT h1 c.1.symm
  have nM : ∀ {κ : Type} {Y : Ky κ} {mk : Option Nat → Value} {M n' : Nat} {o : κ → Option Nat}, MAt Y mk W M n' o → ∀ j, ¬ (M = h0 ∧ j < 2) := fun hM j c => hM.ne h1.c0 c.1
  exact { h with
    t0 := hc.cell _ _ _ (nT 0) h.t0
    t1 := hc.cell _ _ _ (nT 1) h.t1
    t2 := hc.cell _ _ _ (nT 2) h.t2
    m0 := h.m0.of_block (hc.block ml h.m0.lt (nM h.m0))
    m1 := h.m1.of_block (hc.block mh h.m1.lt (nM h.m1))
    m2 := h.m2.of_block (hc.block mw h.m2.lt (nM h.m2))
    md := fun o m e => (h.md o m e).of_block (hc.block m (h.md o m e).lt (nM (h.md o m e)))
    qa := fun k' K' e j hj => (h.qa k' K' e j hj).keep hc ⟨fun c => h.kx e h1 c.1, fun c => h.kx e h1 c.1⟩ (fun y hy => ⟨fun c => by omega, fun c => by omega⟩)
    wc := fun j k' y hj hy => by
      show WtAt X y (updC s.con h0 c y)
      unfold updC
      by_cases e : y = h0
      · rw [if_pos e, e]; exact hx
      · rw [if_neg e]; exact (h.wc j k' y hj hy).keep hc (fun _ _ c => e c.1)
    ps := h.ps.cf hc (fun b c e j c2 => h.ps.px b c 0 k h0 e (by decide) hm c2.1) }
set_option maxRecDepth 100000 in
set_option maxHeartbeats 2000000 in
theorem hold_up (h : LkAt B W T ml mh mw n s) (hx : Fw W w x) (hf : ∀ i k', i < 3 → w ∉ s.q i k') {h0 m : Nat} (hm : s.hm x.ow = some m) (hh : s.hd x.ow x.k = some h0) (hq : h0 ∈ s.q 0 x.k) (hK : (s.lk x.k).isSome = true) (hks : x.k.size ≤ maxLen) (hwf : (Lit.int .i64 x.ow).wf = true) :
    Calls Try.prog 32 #[.pointer (some ⟨T, 0, none⟩), .pointer (some ⟨w, 0, none⟩)] W fun e W' => e = .returned (.tuple #[]) ∧ LkAt B W' T ml mh mw n (upS s h0 x) ∧ Below B W W' ∧ W'.cell? ⟨w, 2, none⟩ = some (.int .i64 x.ow) := by
  have HD := Lib.hid (h.below (Below.refl _ _).drew)
  have HX := Lib.hid (hx.below (Below.refl _ _).drew)
  have t1 := HD.out.t1
  have c2 := HX.out.c.c2
  have c0 := HX.out.c.c0
  have c1 := HX.out.c.c1
  have l1 := HD.out.m1.look heldMap x.ow hwf
  rw [hm] at l1
  replace l1 : (Instr.lookup 57 (.map (some mh)) (.int .i64 x.ow) false).run Try.prog W.drew = .ok (.map (some m)) W.drew := l1
  have l2 := (HD.out.md x.ow m hm).look waiterMap x.k hks
  rw [hh] at l2
  replace l2 : (Instr.lookup 73 (.map (some m)) (.string x.k) false).run Try.prog W.drew = .ok (.pointer (some ⟨h0, 0, none⟩)) W.drew := l2
  obtain ⟨K, hK⟩ := Option.isSome_iff_exists.1 hK
  have h1 := HD.out.wc 0 x.k h0 (by decide) hq
  have z0 := h1.c0
  have z1 := h1.c1
  have hne : w ≠ h0 := fun e => hf 0 x.k (by decide) (e ▸ hq)
  have fz : ∀ i, W.drew.frozen? ⟨h0, i, none⟩ = false := (HD.out.qa x.k K hK 0 (by decide)).fq h0 hq
  have hcf : Cf W.drew ((W.drew.setCell ⟨h0, 0, none⟩ (.string x.k)).setCell ⟨h0, 1, none⟩ (.bool x.wr)) (fun b i => b = h0 ∧ i < 2) := ((Cf.refl _ _).set ⟨rfl, by decide⟩).set ⟨rfl, by decide⟩
  have hxa : WtAt ((W.drew.setCell ⟨h0, 0, none⟩ (.string x.k)).setCell ⟨h0, 1, none⟩ (.bool x.wr)) h0 ⟨x.k, x.wr, (s.con h0).ow⟩ := ⟨sc_ne (sc_eq z0) (.inr (by decide)), sc_eq (sc_ne z1 (.inr (by decide))), sc_ne (sc_ne h1.c2 (.inr (by decide))) (.inr (by decide))⟩
  have H3 := Lib.hid (HD.out.setClaim hq hxa hcf)
  have HC2 := Lib.hid (sc_ne (g := h0) (i := 1) (u := .bool x.wr) (sc_ne (g := h0) (i := 0) (u := .string x.k) c2 (.inl hne)) (.inl hne))
  have hb : Below B W W.drew := (Below.refl _ _).drew
  have hb3 : Below B W ((W.drew.setCell ⟨h0, 0, none⟩ (.string x.k)).setCell ⟨h0, 1, none⟩ (.bool x.wr)) := hb.trans (cf_below hcf (fun b i q => by rw [q.1]; exact h.bw 0 x.k h0 (by decide) hq) HD.out.lts)
  have HB3 := Lib.hid hb3
  have qE : ∀ (w : World) (r : Option Nat), (binOp .eql 73 (.map r) (.map none)).run Try.prog w = .ok (.bool r.isNone) w := fun w r => run_eql_map_nil w _ _ _ r Try.underlying73
  clear h hx hf hm hh hq hK h1 hcf hxa hb hb3
  go_enter Try.func32, Try.ntmps32
  go_upto_region 0 with fail
  refine wp_region_any (by kernel_rfl) ?_
  change wpAny _ _ _ _ _ _ _ (World.drew _)
  refine wpAny_rest 0 (by rfl) (by kernel_rfl) ?_
  simp only [List.drop_zero]
  repeat still_step
  refine wpStill_nil ?_
  generalize W.drew = W1 at *
  go_wp2_with fail
  refine bodyPost_ret (v := .tuple #[]) (results_none rfl _ _ _) ?_ ?_
  · rfl
  · exact ⟨rfl, H3.out, HB3.out, HC2.out⟩
end
end Go.Proofs.Ytgabdlnbencglaa

namespace Go.Proofs.Ytgabdlnbencglaa
open Go.RowKit
/-- Holders are held, waiters are waited for; holders go together. -/
structure LkOk (s : Lk) : Prop where
  h1 : ∀ o k w, s.hd o k = some w → w ∈ s.q 0 k ∧ (s.con w).ow = o
  h2 : ∀ k w, w ∈ s.q 0 k → s.hd (s.con w).ow k = some w
  ck : ∀ i k w, i < 3 → w ∈ s.q i k → (s.con w).k = k ∧ k.size ≤ 100 ∧ (Lit.int .i64 (s.con w).ow).wf = true
  w1 : ∀ o w, s.wt o = some w → (s.con w).ow = o ∧ ∃ i, (i = 1 ∨ i = 2) ∧ w ∈ s.q i (s.con w).k
  w2 : ∀ i k w, (i = 1 ∨ i = 2) → w ∈ s.q i k → s.wt (s.con w).ow = some w
  r1 : ∀ k w, w ∈ s.q 1 k → s.hd (s.con w).ow k ≠ none
  r2 : ∀ k w, w ∈ s.q 2 k → s.hd (s.con w).ow k = none
  cp : ∀ k x y, x ∈ s.q 0 k → y ∈ s.q 0 k → x ≠ y → (s.con x).wr = false
/-- Each stands in one queue. -/
def Qd (s : Lk) : Prop := ∀ i j k k' x, i < 3 → j < 3 → x ∈ s.q i k → x ∈ s.q j k' → i = j ∧ k = k'
theorem lt3 {i : Nat} (h : i = 1 ∨ i = 2) : i < 3 := by omega
theorem lkOk_none : LkOk Lk.none := ⟨fun _ _ _ h => (by cases h), fun _ _ h => (by cases h), fun _ _ _ _ h => (by cases h), fun _ _ h => (by cases h), fun _ _ _ _ h => (by cases h), fun _ _ h => (by cases h), fun _ _ h => (by cases h), fun _ _ _ h => (by cases h)⟩
theorem updH_same (f : Int → ByteArray → Option Nat) (o : Int) (k : ByteArray) (z : Option Nat) : updH f o k z o k = z := by unfold updH; rw [if_pos rfl, updM_same]
theorem updH_other (f : Int → ByteArray → Option Nat) {o o' : Int} {k k' : ByteArray} (z : Option Nat) (h : ¬ (o' = o ∧ k' = k)) : updH f o k z o' k' = f o' k' := by
  unfold updH
  by_cases e : o' = o
  · rw [if_pos e, updM_other _ _ (fun c => h ⟨e, c⟩), e]
  · rw [if_neg e]
theorem updC_same (f : Nat → Wc) (w : Nat) (x : Wc) : updC f w x w = x := by unfold updC; rw [if_pos rfl]
theorem updC_other (f : Nat → Wc) {w y : Nat} (x : Wc) (h : y ≠ w) : updC f w x y = f y := by unfold updC; rw [if_neg h]
/-- One waits no more. -/
theorem LkOk.leave {s : Lk} (h : LkOk s) (hq : Qd s) {i : Nat} {k : ByteArray} {w : Nat} {q : List Nat} (hi : i = 1 ∨ i = 2) (hw : w ∈ s.q i k) (hm : ∀ y, y ∈ q ↔ y ∈ s.q i k ∧ y ≠ w) :
    LkOk (leftG s i k q (s.con w).ow) ∧ (∀ j k' y, j < 3 → (y ∈ (leftG s i k q (s.con w).ow).q j k' ↔ y ∈ s.q j k' ∧ y ≠ w)) := by
  have mem : ∀ j k' y, j < 3 → (y ∈ (leftG s i k q (s.con w).ow).q j k' ↔ y ∈ s.q j k' ∧ y ≠ w) := fun j k' y hj => by
    show y ∈ updQ s.q i k q j k' ↔ _
    by_cases e : j = i ∧ k' = k
    · obtain ⟨rfl, rfl⟩ := e
      rw [updQ_same]; exact hm y
    · rw [updQ_other _ _ e]
      exact ⟨fun c => ⟨c, fun c2 => e (hq j i k' k y hj (lt3 hi) c (c2 ▸ hw))⟩, fun c => c.1⟩
  refine ⟨⟨fun o k' y e => ?_, fun k' y c => ?_, fun j k' y hj c => ?_, fun o y e => ?_, fun j k' y hj c => ?_, fun k' y c => ?_, fun k' y c => ?_, fun k' x y c d => ?_⟩, mem⟩
  · obtain ⟨e1, e2⟩ := h.h1 o k' y e
    refine ⟨(mem 0 k' y (by decide)).2 ⟨e1, fun c => ?_⟩, e2⟩
    have := (hq 0 i k' k y (by decide) (lt3 hi) e1 (c ▸ hw)).1
    omega
  · exact h.h2 k' y ((mem 0 k' y (by decide)).1 c).1
  · exact h.ck j k' y hj ((mem j k' y hj).1 c).1
  · have e : updM s.wt (s.con w).ow none o = some y := e
    rcases updM_cases e with ⟨_, c⟩ | ⟨c, d⟩
    · cases c
    · obtain ⟨e1, j, hj, e2⟩ := h.w1 o y d
      exact ⟨e1, j, hj, (mem j _ y (lt3 hj)).2 ⟨e2, fun c2 => c (by rw [← e1, c2])⟩⟩
  · obtain ⟨c1, c2⟩ := (mem j k' y (lt3 hj)).1 c
    have e1 := h.w2 j k' y hj c1
    show updM s.wt (s.con w).ow none (s.con y).ow = some y
    rw [updM_other _ _ (fun e => c2 (by
      have e3 := h.w2 i k w hi hw
      rw [← e, e1] at e3
      exact Option.some.inj e3))]
    exact e1
  · exact h.r1 k' y ((mem 1 k' y (by decide)).1 c).1
  · exact h.r2 k' y ((mem 2 k' y (by decide)).1 c).1
  · exact h.cp k' x y ((mem 0 k' x (by decide)).1 c).1 ((mem 0 k' y (by decide)).1 d).1
/-- Holders that are free for a claim: it goes together with all others. -/
theorem endsL_two {q : List Nat} {x : Nat} (hx : x ∈ q) : ∃ a b, endsL q = [a, b] ∧ a ∈ q ∧ b ∈ q ∧ (a = b → q.Nodup → q = [a]) := by
  unfold endsL
  cases hh : q.head? with
  | none => rw [List.head?_eq_none_iff.1 hh] at hx; cases hx
  | some a =>
    cases hl : q.getLast? with
    | none => rw [List.getLast?_eq_none_iff.1 hl] at hx; cases hx
    | some b =>
      refine ⟨a, b, rfl, List.mem_of_head? hh, List.mem_of_getLast? hl, fun e hn => ?_⟩
      subst e
      cases q with
      | nil => cases hx
      | cons z t =>
        simp at hh
        subst hh
        cases t with
        | nil => rfl
        | cons y r =>
          exfalso
          rw [List.getLast?_cons_cons] at hl
          exact (List.nodup_cons.1 hn).1 (List.mem_of_getLast? hl)
theorem LkOk.free {s : Lk} (h : LkOk s) {k : ByteArray} {x : Wc} (hn : (s.q 0 k).Nodup) (hf : freeB s.con x (s.q 0 k) = true) {y : Nat} (hy : y ∈ s.q 0 k) (ho : (s.con y).ow ≠ x.ow) : x.wr = false ∧ (s.con y).wr = false := by
  obtain ⟨a, b, e, ha, hb, hab⟩ := endsL_two hy
  have hf2 : clash x (s.con a) = false ∧ clash x (s.con b) = false := by
    unfold freeB at hf
    rw [e] at hf
    simp at hf
    exact hf
  have cl : ∀ z, clash x (s.con z) = false → (s.con z).ow ≠ x.ow → x.wr = false ∧ (s.con z).wr = false := fun z hz hzo => by
    unfold clash at hz
    rw [decide_eq_false hzo] at hz
    simp at hz
    exact hz
  by_cases hxa : (s.con a).ow = x.ow
  · by_cases hxb : (s.con b).ow = x.ow
    · have e1 := h.h2 k a ha
      have e2 := h.h2 k b hb
      rw [hxa] at e1
      rw [hxb, e1] at e2
      have hq := hab (Option.some.inj e2) hn
      rw [hq] at hy
      rw [List.mem_singleton.1 hy] at ho
      exact absurd hxa ho
    · have c := cl b hf2.2 hxb
      refine ⟨c.1, ?_⟩
      by_cases e : y = b
      · rw [e]; exact c.2
      · exact h.cp k y b hy hb e
  · have c := cl a hf2.1 hxa
    refine ⟨c.1, ?_⟩
    by_cases e : y = a
    · rw [e]; exact c.2
    · exact h.cp k y a hy ha e
theorem freeB_all {con : Nat → Wc} {x : Wc} {q : List Nat} (h : ∀ y, y ∈ q → clash x (con y) = false) : freeB con x q = true := by
  unfold freeB
  rw [Bool.not_eq_true', List.any_eq_false]
  intro z hz
  rw [h z (endsL_mem hz)]; decide
/-- One comes to hold a key of which it holds nothing. -/
theorem LkOk.held {s : Lk} (h : LkOk s) {m w : Nat} {x : Wc} (hn : (s.q 0 x.k).Nodup) (hw : ∀ i k', i < 3 → w ∉ s.q i k') (hh : s.hd x.ow x.k = Option.none) (ht : s.wt x.ow = Option.none) (hf : freeB s.con x (s.q 0 x.k) = true) (hk : x.k.size ≤ 100) (hwf : (Lit.int .i64 x.ow).wf = true) :
    LkOk (heldS s m w x) ∧ (∀ j k' y, j < 3 → (y ∈ (heldS s m w x).q j k' ↔ y ∈ s.q j k' ∨ (y = w ∧ j = 0 ∧ k' = x.k))) := by
  have mem : ∀ j k' y, j < 3 → (y ∈ (heldS s m w x).q j k' ↔ y ∈ s.q j k' ∨ (y = w ∧ j = 0 ∧ k' = x.k)) := fun j k' y hj => by
    show y ∈ updQ s.q 0 x.k (s.q 0 x.k ++ [w]) j k' ↔ _
    by_cases e : j = 0 ∧ k' = x.k
    · obtain ⟨rfl, rfl⟩ := e
      rw [updQ_same, List.mem_append, List.mem_singleton]
      simp
    · rw [updQ_other _ _ e]
      exact ⟨.inl, fun c => c.elim id (fun c => absurd c.2 e)⟩
  have cn : ∀ y, y ≠ w → (heldS s m w x).con y = s.con y := fun y e => updC_other _ _ e
  have cw : (heldS s m w x).con w = x := updC_same _ _ _
  have ne : ∀ {j k' y}, j < 3 → y ∈ s.q j k' → y ≠ w := fun {j k' y} hj c e => hw j k' hj (e ▸ c)
  have fr : ∀ y, y ∈ s.q 0 x.k → x.wr = false ∧ (s.con y).wr = false := fun y hy => h.free hn hf hy (fun e => by
    have := h.h2 x.k y hy
    rw [e, hh] at this; cases this)
  refine ⟨⟨fun o k' y e => ?_, fun k' y c => ?_, fun j k' y hj c => ?_, fun o y e => ?_, fun j k' y hj c => ?_, fun k' y c => ?_, fun k' y c => ?_, fun k' y z c d hyz => ?_⟩, mem⟩
  · have e : updH s.hd x.ow x.k (some w) o k' = some y := e
    by_cases c : o = x.ow ∧ k' = x.k
    · obtain ⟨rfl, rfl⟩ := c
      rw [updH_same] at e
      obtain rfl := Option.some.inj e
      exact ⟨(mem 0 _ _ (by decide)).2 (.inr ⟨rfl, rfl, rfl⟩), by rw [cw]⟩
    · rw [updH_other _ _ c] at e
      obtain ⟨e1, e2⟩ := h.h1 o k' y e
      exact ⟨(mem 0 _ _ (by decide)).2 (.inl e1), by rw [cn y (ne (by decide) e1)]; exact e2⟩
  · show updH s.hd x.ow x.k (some w) _ k' = some y
    rcases (mem 0 k' y (by decide)).1 c with c | ⟨rfl, _, rfl⟩
    · have e1 := h.h2 k' y c
      rw [cn y (ne (by decide) c), updH_other _ _ (fun c2 => by rw [c2.1, c2.2, hh] at e1; cases e1)]
      exact e1
    · rw [cw, updH_same]
  · rcases (mem j k' y hj).1 c with c | ⟨rfl, _, rfl⟩
    · rw [cn y (ne hj c)]; exact h.ck j k' y hj c
    · rw [cw]; exact ⟨rfl, hk, hwf⟩
  · obtain ⟨e1, j, hj, e2⟩ := h.w1 o y e
    rw [cn y (ne (lt3 hj) e2)]
    exact ⟨e1, j, hj, (mem j _ y (lt3 hj)).2 (.inl e2)⟩
  · rcases (mem j k' y (lt3 hj)).1 c with c | ⟨_, c, _⟩
    · rw [cn y (ne (lt3 hj) c)]; exact h.w2 j k' y hj c
    · omega
  · rcases (mem 1 k' y (by decide)).1 c with c | ⟨_, c, _⟩
    · rw [cn y (ne (by decide) c)]
      show updH s.hd x.ow x.k (some w) _ k' ≠ Option.none
      by_cases c2 : (s.con y).ow = x.ow ∧ k' = x.k
      · rw [c2.1, c2.2, updH_same]; simp
      · rw [updH_other _ _ c2]; exact h.r1 k' y c
    · cases c
  · rcases (mem 2 k' y (by decide)).1 c with c | ⟨_, c, _⟩
    · rw [cn y (ne (by decide) c)]
      show updH s.hd x.ow x.k (some w) _ k' = Option.none
      rw [updH_other _ _ (fun c2 => by
        have := h.w2 2 k' y (.inr rfl) c
        rw [c2.1, ht] at this; cases this)]
      exact h.r2 k' y c
    · cases c
  · rcases (mem 0 k' y (by decide)).1 c with c1 | ⟨rfl, _, rfl⟩
    · rw [cn y (ne (by decide) c1)]
      rcases (mem 0 k' z (by decide)).1 d with d1 | ⟨rfl, _, rfl⟩
      · exact h.cp k' y z c1 d1 hyz
      · exact (fr y c1).2
    · rw [cw]
      rcases (mem 0 _ z (by decide)).1 d with d | ⟨rfl, _, _⟩
      · exact (fr z d).1
      · exact absurd rfl hyz
/-- One that holds a key claims more. -/
theorem LkOk.up {s : Lk} (h : LkOk s) {h0 : Nat} {x : Wc} (hn : (s.q 0 x.k).Nodup) (hh : s.hd x.ow x.k = some h0) (hf : freeB s.con x (s.q 0 x.k) = true) (hq : Qd s) : LkOk (upS s h0 x) := by
  obtain ⟨m0, o0⟩ := h.h1 _ _ _ hh
  have k0 := (h.ck 0 _ _ (by decide) m0).1
  have ow : ∀ y, ((upS s h0 x).con y).ow = (s.con y).ow := fun y => by
    show (updC s.con h0 _ y).ow = _
    by_cases e : y = h0
    · rw [e, updC_same]
    · rw [updC_other _ _ e]
  have kk : ∀ y, ((upS s h0 x).con y).k = (s.con y).k := fun y => by
    show (updC s.con h0 _ y).k = _
    by_cases e : y = h0
    · rw [e, updC_same, k0]
    · rw [updC_other _ _ e]
  refine ⟨fun o k' y e => ?_, fun k' y c => ?_, fun j k' y hj c => ?_, fun o y e => ?_, fun j k' y hj c => ?_, fun k' y c => ?_, fun k' y c => ?_, fun k' y z c d hyz => ?_⟩
  · rw [ow]; exact h.h1 o k' y e
  · rw [ow]; exact h.h2 k' y c
  · rw [ow, kk]; exact h.ck j k' y hj c
  · rw [ow, kk]; exact h.w1 o y e
  · rw [ow]; exact h.w2 j k' y hj c
  · rw [ow]; exact h.r1 k' y c
  · rw [ow]; exact h.r2 k' y c
  · show (updC s.con h0 _ y).wr = false
    by_cases e : y = h0
    · rw [e, updC_same]
      subst e
      have ek : k' = x.k := (hq 0 0 k' x.k y (by decide) (by decide) c m0).2
      subst ek
      refine (h.free hn hf d (fun e2 => hyz ?_)).1
      have e3 := h.h2 _ z d
      rw [e2, hh] at e3
      exact Option.some.inj e3
    · rw [updC_other _ _ e]; exact h.cp k' y z c d hyz
end Go.Proofs.Ytgabdlnbencglaa
