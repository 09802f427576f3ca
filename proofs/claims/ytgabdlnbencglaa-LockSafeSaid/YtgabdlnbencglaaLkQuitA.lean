/-
  A TABLE OF LOCKS: Quit of any owner.
-/
import Derived.Test.YtgabdlnbencglaaLkFreeA
namespace Go.Proofs.Ytgabdlnbencglaa
open Go.RowKit
section
variable {B : Nat} {W X : World} {T ml mh mw n : Nat} {s : Lk} {o : Int}
set_option maxRecDepth 100000 in
set_option maxHeartbeats 2000000 in
theorem quit_no (h : LkAt B W T ml mh mw n s) (hwf : (Lit.int .i64 o).wf = true) (hw : s.wt o = none) :
    Calls Try.prog 13 #[.pointer (some ⟨T, 0, none⟩), .int .i64 o] W fun e W' => e = .returned (.slice none 0 0) ∧ W = W' := by
  have KM := Lib.hid (made_any h)
  have l2 := h.m2.look waitsMap o hwf
  rw [hw] at l2
  replace l2 : (Instr.lookup 58 (.map (some mw)) (.int .i64 o) false).run Try.prog W = .ok (.pointer none) W := l2
  have t2 := h.t2
  clear h hw
  go_enter Try.func13, Try.ntmps13
  go_wp2_with fail
  refine KM.out.mono ?_
  rintro e w1 ⟨rfl, rfl⟩
  clear KM
  go_wp2
  go_ret
  exact ⟨rfl, rfl⟩
/-- What Quit leaves. -/
def QuP (B : Nat) (T ml mh mw n : Nat) (s : Lk) (o : Int) (k : ByteArray) (W : World) (e : Ending) (W' : World) : Prop :=
  ∃ v ps s', e = .returned v ∧ RowI W' W.heap.size v ps ∧ (ps = [] → v = .slice none 0 0) ∧ PassL (leftT s o) (keysL [k]) ps s' ∧ LkAt B W' T ml mh mw (n + 1 + 3 * ps.length) s' ∧ (∀ g, v.ownBlock = some g → Nt s' T g) ∧ Below B W W'
set_option maxRecDepth 100000 in
set_option maxHeartbeats 2000000 in
theorem quit_yes (h : LkAt B W T ml mh mw n s) (hc : LkC s) (hwf : (Lit.int .i64 o).wf = true) {w1 : Nat} (hwt : s.wt o = some w1) {c : Nat} (hw : Wn s c) (hn : n + 1 + 3 * c ≤ 1000000) :
    Calls Try.prog 13 #[.pointer (some ⟨T, 0, none⟩), .int .i64 o] W (QuP B T ml mh mw n s o (s.con w1).k W) := by
  have KM := Lib.hid (made_any h)
  obtain ⟨ho, i, hi, hq⟩ := hc.ok.w1 o w1 hwt
  obtain ⟨q1, q2, he⟩ := List.append_of_mem hq
  obtain ⟨K1, hK1⟩ := h.lk_some hq
  have eL := Lib.hid (leftT_some hc hi he ho)
  have hks := (hc.ok.ck i _ w1 (lt3 hi) hq).2.1
  have t2 := h.t2
  have l2 := h.m2.look waitsMap o hwf
  rw [hwt] at l2
  replace l2 : (Instr.lookup 58 (.map (some mw)) (.int .i64 o) false).run Try.prog W = .ok (.pointer (some ⟨w1, 0, none⟩)) W := l2
  have hcase : (i = 1 ∧ s.hd (s.con w1).ow (s.con w1).k ≠ none) ∨ (i = 2 ∧ s.hd (s.con w1).ow (s.con w1).k = none) := by
    rcases hi with rfl | rfl
    · exact .inl ⟨rfl, hc.ok.r1 _ _ hq⟩
    · exact .inr ⟨rfl, hc.ok.r2 _ _ hq⟩
  have KL := leave_g h hcase hK1 he rfl (show (s.con w1).k.size ≤ maxLen by unfold maxLen; omega) (by rw [ho]; exact hwf)
  rw [ho, ← eL.out] at KL
  have KL := Lib.hid KL
  have HC1 := Lib.hid (hc.leftT (o := o)).1
  have HW := Lib.hid (hw.sub (s' := leftT s o) (fun i k y hy => by
    by_cases e : i = 0
    · subst e; exact hy
    · have hy : y ∈ if i = 0 then s.q 0 k else fl s.con o (s.q i k) := hy
      rw [if_neg e] at hy
      exact (mem_fl.1 hy).1))
  have HKK := Lib.hid (keysOf_lk h hc (o := o) (k := (s.con w1).k) (.inl ⟨w1, hwt, rfl⟩))
  have hK : ∃ k1, (s.con w1).k = k1 := ⟨_, rfl⟩
  obtain ⟨k1, hk1⟩ := hK
  rw [hk1] at HKK ⊢
  have HK1 := Lib.hid hk1
  clear h hwt hc hcase hi hq he hK1 hks ho hw
  go_enter Try.func13, Try.ntmps13
  go_wp2_with fail
  refine KM.out.mono ?_
  rintro e w0 ⟨rfl, rfl⟩
  clear KM
  go_wp2_with fail
  refine KL.out.mono ?_
  rintro e wa ⟨rfl, ha, fa, _, ba⟩
  have ca := fa.c.c0
  rw [hk1] at ca
  have hsa : W.heap.size ≤ wa.heap.size := ba.size
  have bal : Below wa.heap.size wa (wa.alloc (.cells #[.string k1] 9)) := (Below.refl _ _).alloc (Nat.le_refl _) _
  have hr : RowS (wa.alloc (.cells #[.string k1] 9)) B (.slice (some ⟨wa.heap.size, 0, none⟩) 1 1) [k1] := World.ownsRow_lit wa #[.string k1] 1 ha.lts (by decide) rfl
  have KP := Lib.hid (pass_any (ha.below bal) HC1.out HW.out hr (fun e => by cases e) (fun g e => by injection e with e; subst e; exact ha.nt_new (Nat.le_refl _)) (by simp) (fun k hk => by rw [List.mem_singleton.1 hk]; exact HKK.out) hn)
  have HA := Lib.hid ha
  have BA := Lib.hid (ba.trans (bal.mono ha.lts))
  have hsb : wa.heap.size ≤ (wa.alloc (.cells #[.string k1] 9)).heap.size := bal.size
  clear ha fa ba KL l2 t2 bal hr
  go_wp2_with fail
  refine KP.out.mono ?_
  rintro e w4 ⟨v4, ps, s4, rfl, hr4, h04, hp4, ht4, hn4, hb4⟩
  have HF : Hid (QuP B T ml mh mw n s o k1 W (.returned v4) w4) := ⟨v4, ps, s4, rfl, ⟨hr4.1, hr4.2.imp id fun ⟨g, cap, cur, q1, q2, q3⟩ => ⟨g, cap, cur, q1, by omega, q3⟩⟩, h04, hp4, ht4, hn4, BA.out.trans hb4⟩
  clear hr4 h04 hp4 ht4 hn4 hb4 KP
  go_wp2
  go_ret
  exact HF.out
end
end Go.Proofs.Ytgabdlnbencglaa
