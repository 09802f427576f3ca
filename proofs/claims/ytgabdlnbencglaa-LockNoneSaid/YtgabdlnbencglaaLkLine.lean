/-
  A TABLE OF LOCKS: the part of a line in which a waiter stands that holds nothing of the key.
-/
import Derived.Test.YtgabdlnbencglaaLkHold
namespace Go.Proofs.Ytgabdlnbencglaa
open Go.RowKit Go.Maps Go.ChangeMaps Go.MapKept Go.WideElems Go.WideMaps
theorem look_nil_w (W : World) (k : ByteArray) (hk : k.size ≤ maxLen) : (Instr.lookup 73 (.map none) (.string k) false).run Try.prog W = .ok (.pointer none) W := by
  have h := look_nil (P := Try.prog) (w := W) false (string_keyed Try.underlying9) Try.underlying73 (waiterMap.z W) (keyOf_string_mk (P := Try.prog) Try.underlying9 hk)
  simpa [pV] using h
section
variable {B : Nat} {W X : World} {T ml mh mw n : Nat} {s : Lk} {w : Nat} {x : Wc}
set_option maxRecDepth 100000 in
set_option maxHeartbeats 2000000 in
theorem line_others (h : LkAt B W T ml mh mw n s) (hx : WtAt W w x) {K : Nat} (hk : s.lk x.k = some K) (hh : s.hd x.ow x.k = none) (hks : x.k.size ≤ maxLen) (hwf : (Lit.int .i64 x.ow).wf = true) :
    Calls Try.prog 33 #[.pointer (some ⟨T, 0, none⟩), .pointer (some ⟨w, 0, none⟩)] W fun e W' => e = .returned (.pointer (some ⟨K, 4, none⟩)) ∧ Below W.heap.size W W' := by
  have HD := Lib.hid (h.below (Below.refl _ _).drew)
  have HX := Lib.hid (hx.below (Below.refl _ _).drew)
  have HE := Lib.hid (HD.out.below (Below.refl _ _).drew)
  have t0 := HD.out.t0
  have c0 := HX.out.c0
  have HXE := Lib.hid (HX.out.below (Below.refl _ _).drew)
  have e0 := HXE.out.c0
  have e2 := HXE.out.c2
  have e1 := HE.out.t1
  have l3 := HD.out.m0.look lockMap x.k hks
  rw [hk] at l3
  have l3 : (Instr.lookup 56 (.map (some ml)) (.string x.k) false).run Try.prog W.drew = .ok (.pointer (some ⟨K, 0, none⟩)) W.drew := l3
  have l1 := HE.out.m1.look heldMap x.ow hwf
  have hb : Below W.heap.size W W.drew.drew := (Below.refl _ _).drew.drew
  have HB := Lib.hid hb
  have hlook : ∃ v, (Instr.lookup 57 (.map (some mh)) (.int .i64 x.ow) false).run Try.prog W.drew.drew = .ok v W.drew.drew ∧ (Instr.lookup 73 v (.string x.k) false).run Try.prog W.drew.drew = .ok (.pointer none) W.drew.drew := by
    cases hm : s.hm x.ow with
    | none => rw [hm] at l1; exact ⟨_, l1, look_nil_w _ _ hks⟩
    | some m =>
      rw [hm] at l1
      have l2 := (HE.out.md x.ow m hm).look waiterMap x.k hks
      rw [hh] at l2
      exact ⟨_, l1, l2⟩
  obtain ⟨v, l4, l5⟩ := hlook
  clear h hx l1 hk hh hb
  generalize hW2 : W.drew.drew = W2 at *
  generalize hW1 : W.drew = W1 at *
  go_enter Try.func33, Try.ntmps33
  go_upto_region 1 with fail
  refine wp_region_any (by kernel_rfl) ?_
  change wpAny _ _ _ _ _ _ _ (World.drew _)
  rw [hW1]
  refine wpAny_rest 0 (by rfl) (by kernel_rfl) ?_
  simp only [List.drop_zero]
  repeat still_step
  refine wpStill_nil ?_
  go_upto_region 2 with fail
  refine wp_region_any (by kernel_rfl) ?_
  change wpAny _ _ _ _ _ _ _ (World.drew _)
  rw [hW2]
  refine wpAny_rest 0 (by rfl) (by kernel_rfl) ?_
  simp only [List.drop_zero]
  repeat still_step
  refine wpStill_nil ?_
  go_wp2
  go_ret
  exact ⟨rfl, HB.out⟩
end
end Go.Proofs.Ytgabdlnbencglaa
