/-
  A TABLE OF LOCKS: pass, of any keys, any many of which are passed on.
-/
import Derived.Test.YtgabdlnbencglaaLkPass
import Derived.Test.YtgabdlnbencglaaLkPassP
namespace Go.Proofs.Ytgabdlnbencglaa
open Go.RowKit
section
variable {B : Nat} {W X : World} {T ml mh mw n : Nat} {s : Lk}
theorem LkAt.delLock (h : LkAt B W T ml mh mw n s) {k : ByteArray} (hq : ∀ i, s.q i k = []) (hm : MAt sKy pV X ml n (updM s.lk k none)) (hg : W.grownBy X (some ml)) :
    LkAt B X T ml mh mw n { s with lk := updM s.lk k none } := by
  obtain ⟨k0, k1, k2, k3, k4, k5⟩ := h.kq h.m0.no_cell hg
  have hb : ∀ b, b < W.heap.size → b ≠ ml → X.heap[b]? = W.heap[b]? := fun b hb hn => hg.block b hb (fun e => hn (by injection e))
  have key : ∀ k' K, updM s.lk k none k' = some K → k' ≠ k ∧ s.lk k' = some K := fun k' K e => by
    rcases updM_cases e with ⟨_, c⟩ | ⟨c, d⟩
    · cases c
    · exact ⟨c, d⟩
  exact { h with
    t0 := k0
    t1 := k1
    t2 := k2
    m0 := hm
    m1 := h.m1.of_block (hb mh h.m1.lt h.mn.1.symm)
    m2 := h.m2.of_block (hb mw h.m2.lt h.mn.2.1.symm)
    md := fun o m e => (h.md o m e).of_block (hb m (h.md o m e).lt (h.hne o m e).1)
    qa := fun k' K e i hi => k3 k' K (key k' K e).2 i hi
    qn := fun k' e i => by
      by_cases c : k' = k
      · rw [c]; exact hq i
      · have e : updM s.lk k none k' = none := e
        rw [updM_other _ _ c] at e
        exact h.qn k' e i
    wc := k4
    ps := k5.setK fun b c k' K e e2 => h.ps.pk b c k' K e (key k' K e2).2
    li := fun k1 k2 K e e' => h.li k1 k2 K (key k1 K e).2 (key k2 K e').2
    bk := fun k' K e => h.bk k' K (key k' K e).2 }
/-- A step of pass: who leaves, comes to hold. -/
theorem step_at (h : LkAt B W T ml mh mw n s) (hc : LkC s) {k : ByteArray} {w : Nat} (hf : (s.q 1 k ++ s.q 2 k).head? = some w) (hfr : freeB s.con (s.con w) (s.q 0 k) = true) (hn : n ≤ 10000000) :
    ∃ s1, (Calls Try.prog 35 #[.pointer (some ⟨T, 0, none⟩), .pointer (some ⟨w, 0, none⟩)] W fun e W' => e = .returned (.tuple #[]) ∧ LkAt B W' T ml mh mw (n + 1) s1 ∧ Fw W' w (s.con w) ∧ Below B W W') ∧
      ∀ X, LkAt B X T ml mh mw (n + 1) s1 → Fw X w (s.con w) → Calls Try.prog 32 #[.pointer (some ⟨T, 0, none⟩), .pointer (some ⟨w, 0, none⟩)] X fun e W' => e = .returned (.tuple #[]) ∧ ∃ s2, Step k s w s2 ∧ LkAt B W' T ml mh mw (n + 3) s2 ∧ Below B X W' ∧ W'.cell? ⟨w, 2, none⟩ = some (.int .i64 (s.con w).ow) := by
  rcases head_of hf with ⟨r, e1⟩ | ⟨e1, r, e2⟩
  · have hw : w ∈ s.q 1 k := by rw [e1]; exact List.mem_cons_self ..
    obtain ⟨ck, ks, wf⟩ := hc.ok.ck 1 k w (by decide) hw
    obtain ⟨K, hK⟩ := h.lk_some hw
    obtain ⟨h0, e0⟩ := Option.ne_none_iff_exists'.1 (hc.ok.r1 k w hw)
    have hm0 := (hc.ok.h1 _ _ _ e0).1
    have hks : k.size ≤ maxLen := by unfold maxLen; omega
    obtain ⟨_, mem⟩ := hc.leave (i := 1) (.inl rfl) hw (nd_cons (hc.nd 1 k (by decide)) e1) (by have := hc.nd 1 k (by decide); rw [e1] at this; exact (List.nodup_cons.1 this).2)
    refine ⟨leftG s 1 k r (s.con w).ow, (leave_g h (i := 1) (q1 := []) (q2 := r) (.inl ⟨rfl, by rw [e0]; simp⟩) hK e1 ck hks wf).mono (fun e W' q => ⟨q.1, q.2.1, q.2.2.1, q.2.2.2.2⟩), fun X hX fX => ?_⟩
    have hmo : ∃ m, s.hm (s.con w).ow = some m := by
      cases e : s.hm (s.con w).ow with
      | none => rw [h.hn _ e k] at e0; cases e0
      | some m => exact ⟨m, rfl⟩
    obtain ⟨m, hm⟩ := hmo
    have q0 : (leftG s 1 k r (s.con w).ow).q 0 k = s.q 0 k := leftG_q (fun c => by cases c.1)
    refine (hold_up hX fX (fun i k' hi c => ((mem i k' w hi).1 c).2 rfl) (h0 := h0) (m := m) hm (by rw [ck]; exact e0) (by rw [ck, q0]; exact hm0) (by rw [ck]; show (s.lk k).isSome = true; rw [hK]; rfl) (by rw [ck]; exact hks) wf).mono ?_
    rintro e W' ⟨rfl, h2, b2, c2⟩
    exact ⟨rfl, _, .up r h0 e1 e0 hfr, h2.mono (by omega), b2, c2⟩
  · have hw : w ∈ s.q 2 k := by rw [e2]; exact List.mem_cons_self ..
    obtain ⟨ck, ks, wf⟩ := hc.ok.ck 2 k w (by decide) hw
    obtain ⟨K, hK⟩ := h.lk_some hw
    have e0 := hc.ok.r2 k w hw
    have hks : k.size ≤ maxLen := by unfold maxLen; omega
    obtain ⟨_, mem⟩ := hc.leave (i := 2) (.inr rfl) hw (nd_cons (hc.nd 2 k (by decide)) e2) (by have := hc.nd 2 k (by decide); rw [e2] at this; exact (List.nodup_cons.1 this).2)
    refine ⟨leftG s 2 k r (s.con w).ow, (leave_g h (i := 2) (q1 := []) (q2 := r) (.inr ⟨rfl, e0⟩) hK e2 ck hks wf).mono (fun e W' q => ⟨q.1, q.2.1, q.2.2.1, q.2.2.2.2⟩), fun X hX fX => ?_⟩
    have nf : ∀ i k', i < 3 → w ∉ (leftG s 2 k r (s.con w).ow).q i k' := fun i k' hi c => ((mem i k' w hi).1 c).2 rfl
    have hk2 : (leftG s 2 k r (s.con w).ow).lk (s.con w).k = some K := by rw [ck]; exact hK
    have hks2 : (s.con w).k.size ≤ maxLen := by rw [ck]; exact hks
    have hB := h.bw 2 k w (by decide) hw
    have hP : ∀ b c, s.pas b = some c → b ≠ w := fun b c e => h.ps.px b c 2 k w e (by decide) hw
    have key : ∀ {e : Ending} {W' : World}, HoP B T ml mh mw (n + 1) (leftG s 2 k r (s.con w).ow) w (s.con w) X e W' → e = .returned (.tuple #[]) ∧ ∃ s2, Step k s w s2 ∧ LkAt B W' T ml mh mw (n + 3) s2 ∧ Below B X W' ∧ W'.cell? ⟨w, 2, none⟩ = some (.int .i64 (s.con w).ow) := fun hp => by
      obtain ⟨e, m, h1, h2⟩ := hp
      refine ⟨e, _, .new r m e1 e2 hfr, h1, h2, ?_⟩
      have c2 := (h1.wc 0 k w (by decide) (by
        show w ∈ updQ (leftG s 2 k r (s.con w).ow).q 0 (s.con w).k ((leftG s 2 k r (s.con w).ow).q 0 (s.con w).k ++ [w]) 0 k
        rw [ck, updQ_same]; simp)).c2
      rw [show (heldS (leftG s 2 k r (s.con w).ow) m w (s.con w)).con w = s.con w from updC_same _ _ _] at c2
      exact c2
    cases hm : s.hm (s.con w).ow with
    | none => exact (hold_new hX fX nf hP hB hk2 hm hks2 wf (by unfold maxLen; omega)).mono (fun _ _ q => key q)
    | some m => exact (hold_in hX fX nf hP hB hk2 hm (by rw [ck]; exact e0) hks2 wf (by unfold maxLen; omega)).mono (fun _ _ q => key q)
end
end Go.Proofs.Ytgabdlnbencglaa
