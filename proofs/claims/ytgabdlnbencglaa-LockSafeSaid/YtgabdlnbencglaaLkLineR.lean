/-
  A TABLE OF LOCKS: the part of a line in which a waiter stands that holds the key; leave of any waiter.
-/
import Derived.Test.YtgabdlnbencglaaLkLeave
namespace Go.Proofs.Ytgabdlnbencglaa
open Go.RowKit
section
variable {B : Nat} {W X : World} {T ml mh mw n : Nat} {s : Lk} {w : Nat} {x : Wc}
set_option maxRecDepth 100000 in
set_option maxHeartbeats 2000000 in
theorem line_readers (h : LkAt B W T ml mh mw n s) (hx : WtAt W w x) {K : Nat} (hk : s.lk x.k = some K) {h0 : Nat} (hh : s.hd x.ow x.k = some h0) (hks : x.k.size ≤ maxLen) (hwf : (Lit.int .i64 x.ow).wf = true) :
    Calls Try.prog 33 #[.pointer (some ⟨T, 0, none⟩), .pointer (some ⟨w, 0, none⟩)] W fun e W' => e = .returned (.pointer (some ⟨K, 2, none⟩)) ∧ Below W.heap.size W W' := by
  have HD := Lib.hid (h.below (Below.refl _ _).drew)
  have HX := Lib.hid (hx.below (Below.refl _ _).drew)
  have HE := Lib.hid (HD.out.below (Below.refl _ _).drew)
  have t0 := HD.out.t0
  have c0 := HX.out.c0
  have HXE := Lib.hid (HX.out.below (Below.refl _ _).drew)
  have e0 := HXE.out.c0
  have e2 := HXE.out.c2
  have e1 := HE.out.t1
  have l3 := HD.out.m0.look lockMap x.k hks
  rw [hk] at l3
  have l3 : (Instr.lookup 56 (.map (some ml)) (.string x.k) false).run Try.prog W.drew = .ok (.pointer (some ⟨K, 0, none⟩)) W.drew := l3
  have l1 := HE.out.m1.look heldMap x.ow hwf
  have hb : Below W.heap.size W W.drew.drew := (Below.refl _ _).drew.drew
  have HB := Lib.hid hb
  have hlook : ∃ v, (Instr.lookup 57 (.map (some mh)) (.int .i64 x.ow) false).run Try.prog W.drew.drew = .ok v W.drew.drew ∧ (Instr.lookup 73 v (.string x.k) false).run Try.prog W.drew.drew = .ok (.pointer (some ⟨h0, 0, none⟩)) W.drew.drew := by
    cases hm : s.hm x.ow with
    | none => exact absurd hh (by rw [h.hn x.ow hm x.k]; simp)
    | some m =>
      rw [hm] at l1
      have l2 := (HE.out.md x.ow m hm).look waiterMap x.k hks
      rw [hh] at l2
      exact ⟨_, l1, l2⟩
  obtain ⟨v, l4, l5⟩ := hlook
  clear h hx l1 hk hh hb
  generalize hW2 : W.drew.drew = W2 at *
  generalize hW1 : W.drew = W1 at *
  go_enter Try.func33, Try.ntmps33
  go_upto_region 1 with fail
  refine wp_region_any (by kernel_rfl) ?_
  change wpAny _ _ _ _ _ _ _ (World.drew _)
  rw [hW1]
  refine wpAny_rest 0 (by rfl) (by kernel_rfl) ?_
  simp only [List.drop_zero]
  repeat still_step
  refine wpStill_nil ?_
  go_upto_region 2 with fail
  refine wp_region_any (by kernel_rfl) ?_
  change wpAny _ _ _ _ _ _ _ (World.drew _)
  rw [hW2]
  refine wpAny_rest 0 (by rfl) (by kernel_rfl) ?_
  simp only [List.drop_zero]
  repeat still_step
  refine wpStill_nil ?_
  go_wp2
  go_ret
  exact ⟨rfl, HB.out⟩
end
section
variable {B : Nat} {W X : World} {T ml mh mw n : Nat} {s : Lk}
/-- What leave leaves. -/
noncomputable def leftG (s : Lk) (i : Nat) (k : ByteArray) (q : List Nat) (o : Int) : Lk := { s with q := updQ s.q i k q, wt := updM s.wt o none }
set_option maxRecDepth 100000 in
set_option maxHeartbeats 2000000 in
theorem leave_r (h : LkAt B W T ml mh mw n s) {k : ByteArray} {K w : Nat} {q1 q2 : List Nat} (hk : s.lk k = some K) (he : s.q 1 k = q1 ++ w :: q2) (hck : (s.con w).k = k) {h0 : Nat} (hh : s.hd (s.con w).ow k = some h0) (hks : k.size ≤ maxLen) (hwf : (Lit.int .i64 (s.con w).ow).wf = true) :
    Calls Try.prog 35 #[.pointer (some ⟨T, 0, none⟩), .pointer (some ⟨w, 0, none⟩)] W fun e W' => e = .returned (.tuple #[]) ∧ LkAt B W' T ml mh mw (n + 1) (leftG s 1 k (q1 ++ q2) (s.con w).ow) ∧ Fw W' w (s.con w) ∧ (∀ j k', j < 3 → w ∉ (leftG s 1 k (q1 ++ q2) (s.con w).ow).q j k') ∧ Below B W W' := by
  have hw : w ∈ s.q 1 k := by rw [he]; simp
  have KL := Lib.hid (line_readers h (h.wc 1 k w (by decide) hw) (by rw [hck]; exact hk) (by rw [hck]; exact hh) (by rw [hck]; exact hks) hwf)
  have KD := Lib.hid (fun X (hX : LkAt B X T ml mh mw n s) => drop_any (q1 := q1) (q2 := q2) (w := w) (he ▸ hX.qa k K hk 1 (by decide) : QAt X K (2 * 1) (q1 ++ w :: q2)))
  have HH := Lib.hid h
  have HK := Lib.hid hk
  have HE := Lib.hid he
  have HL := Lib.hid (h.left (i := 1) (by decide) hk he)
  clear hw h hk he hck hh hks
  go_enter Try.func35, Try.ntmps35
  go_wp2_with fail
  refine KL.out.mono ?_
  rintro e w1 ⟨rfl, hb1⟩
  have H1 := Lib.hid (HH.out.below hb1)
  have KD1 := Lib.hid (KD.out w1 H1.out)
  have HB1 := Lib.hid (hb1.mono HH.out.lts)
  clear KL hb1 KD
  go_wp2_with fail
  refine KD1.out.mono ?_
  rintro e w2 ⟨rfl, hq, hc⟩
  obtain ⟨h2, f2⟩ := H1.out.dropQ (i := 1) (by decide) HK.out HE.out hq hc
  have hb2 := HB1.out.trans (H1.out.drop_below (i := 1) (by decide) HK.out HE.out hc)
  have h3 := h2.below (Below.refl _ _).drew
  have f3 := f2.below (Below.refl _ _).drew
  have t2 := h3.t2
  have c2 := f3.c.c2
  obtain ⟨X, hst, hmX, hgX, hsX⟩ := h3.m2.drop waitsMap (s.con w).ow hwf 0
  have hst : ∀ ty, (Builtin.delete_ #[58, 3] ty #[.map (some mw), .int .i64 (s.con w).ow]).run Try.prog w2.drew = .ok (.tuple #[]) X := fun ty => hst
  have H4 := Lib.hid (h3.setWait (o := (s.con w).ow) (z := none) (hmX.mono (Nat.le_succ n)) hgX)
  have F4 := Lib.hid (f3.grown h3.m2.no_cell hgX)
  have HB4 := Lib.hid (hb2.drew.trans (h3.grownB h3.bt.2.2.2 hgX))
  clear h2 f2 hb2 h3 f3 hmX hgX hsX KD1 hq hc
  go_upto_region 1 with fail
  refine wp_region_still_tail 8 (by kernel_rfl) (by kernel_rfl) ?_
  simp only [List.take_succ_cons, List.take_zero, List.drop_succ_cons, List.drop_zero]
  generalize hX1 : w2.drew = W3 at *
  change wpStill _ _ (w2.drew) (fun _ => wpList _ _ _ _ _ (w2.drew)) _ _
  rw [hX1]
  repeat still_step
  refine wpStill_nil ?_
  go_wp2
  refine bodyPost_end (v := .tuple #[]) (results_none rfl _ _ _) ?_ ?_
  · rfl
  · exact ⟨rfl, H4.out, F4.out, HL.out, HB4.out⟩
/-- leave, of any waiter. -/
theorem leave_g {k : ByteArray} {w : Nat} (h : LkAt B W T ml mh mw n s) {i : Nat} (hi : (i = 1 ∧ s.hd (s.con w).ow k ≠ none) ∨ (i = 2 ∧ s.hd (s.con w).ow k = none)) {K : Nat} {q1 q2 : List Nat} (hk : s.lk k = some K) (he : s.q i k = q1 ++ w :: q2) (hck : (s.con w).k = k) (hks : k.size ≤ maxLen) (hwf : (Lit.int .i64 (s.con w).ow).wf = true) :
    Calls Try.prog 35 #[.pointer (some ⟨T, 0, none⟩), .pointer (some ⟨w, 0, none⟩)] W fun e W' => e = .returned (.tuple #[]) ∧ LkAt B W' T ml mh mw (n + 1) (leftG s i k (q1 ++ q2) (s.con w).ow) ∧ Fw W' w (s.con w) ∧ (∀ j k', j < 3 → w ∉ (leftG s i k (q1 ++ q2) (s.con w).ow).q j k') ∧ Below B W W' := by
  rcases hi with ⟨rfl, hh⟩ | ⟨rfl, hh⟩
  · obtain ⟨h0, e0⟩ := Option.ne_none_iff_exists'.1 hh
    exact leave_r h hk he hck e0 hks hwf
  · exact leave_any h hk he hck hh hks hwf
end
end Go.Proofs.Ytgabdlnbencglaa
