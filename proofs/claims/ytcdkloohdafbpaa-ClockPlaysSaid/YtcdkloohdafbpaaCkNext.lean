/-
  THE MODEL's next.
-/
import Derived.Test.YtcdkloohdafbpaaCkModel
namespace Go.Proofs.Ytcdkloohdafbpaa
open Go.RowKit
theorem maxIf (a b : Int) : max a b = if a < b then b else a := by split <;> omega
theorem max3 (a b c : Int) : max (max a b) c = if (if a < b then b else a) < c then c else (if a < b then b else a) := by
  rw [maxIf, maxIf]
set_option maxRecDepth 100000 in
set_option maxHeartbeats 2000000 in
theorem next_any {W : World} {M R n B : Nat} {c : Clk} {vp vt : Value} {top : Int} {lp lt : List (Int × Int)} (h : ModelAt W M R n c.ss vp vt top) (bo : (∀ i, Okay (c.ss.getD i 0)) ∧ (∀ i, Okay (c.fp i)) ∧ ∀ i, Okay (c.ft i)) (hp : RowT W B vp lp) (ht : RowT W B vt lt)
    (np : lp.length ≤ 1000) (nt : lt.length ≤ 1000) (fp : ∀ i, findL lp i = c.fp i) (ft : ∀ i, findL lt i = c.ft i) (x : Ac) :
    Calls Try.prog 23 #[.pointer (some ⟨M, 0, none⟩), .agg x.cells] W fun e w' => e = .returned (.tuple #[.int .i64 (c.N n x.s x.p x.t), .int .i64 (c.E n x.s x.p x.t)]) ∧ Below W.heap.size W w' := by
  have hal : Below W.heap.size W (W.alloc (.cells x.cells 34)) := (Below.refl _ _).alloc (Nat.le_refl _) _
  have hs6 : Six (W.alloc (.cells x.cells 34)) W.heap.size x := by
    refine ⟨?_, ?_, ?_, ?_, ?_, ?_⟩ <;> simp [World.cell?_alloc_at, Ac.cells]
  have KH := Lib.hid ((mhas_any ((h.below hal).below ((Below.refl _ _).alloc (o := .cells #[.int .i64 x.s] 3) (Nat.le_refl _))) (some ⟨(W.alloc (.cells x.cells 34)).heap.size, 0, none⟩) [x.s] 1 (by simp [maxLen]) (one_int _ x.s 3)).mono fun e w' hh => (by
    have b2 : Below (W.alloc (.cells x.cells 34)).heap.size (W.alloc (.cells x.cells 34)) ((W.alloc (.cells x.cells 34)).alloc (.cells #[.int .i64 x.s] 3)) := (Below.refl _ _).alloc (Nat.le_refl _) _
    have b3 := b2.trans (hh.2.mono b2.size)
    exact ⟨by rw [hh.1]; unfold hasL; simp, Lib.hid (hal.trans (b3.mono hal.size)), Lib.hid (hs6.below b3)⟩ : e = .returned (.bool (hasB n x.s)) ∧ Hid (Below W.heap.size W w') ∧ Hid (Six w' W.heap.size x)))
  rw [World.size_alloc] at KH
  have HM := Lib.hid (fun W' (hW : Below W.heap.size W W') => h.below hW)
  have KF1 := Lib.hid (fun W' (hW : Below W.heap.size W W') => (find_row (hp.below hW) np x.p).mono fun _ _ ⟨a, b⟩ => (⟨a, b.symm⟩ : _ ∧ _))
  have KF2 := Lib.hid (fun W' (hW : Below W.heap.size W W') => (find_row (ht.below hW) nt x.t).mono fun _ _ ⟨a, b⟩ => (⟨a, b.symm⟩ : _ ∧ _))
  rw [fp x.p] at KF1
  rw [ft x.t] at KF2
  obtain ⟨b0, b1⟩ := bo.2.1 x.p
  obtain ⟨d0, d1⟩ := bo.2.2 x.t
  have HO := Lib.hid bo.1
  have HN : Hid (c.N n x.s x.p x.t = if okT n c x.s x.p x.t then nextV n c.ss c.fp c.ft x.s x.p x.t else 0) := rfl
  have HE : Hid (c.E n x.s x.p x.t = if hasB n x.s then (if nextV n c.ss c.fp c.ft x.s x.p x.t ≤ 4611686018427387903 then 0 else 3) else 1) := rfl
  have HX : Hid (nextV n c.ss c.fp c.ft x.s x.p x.t = max (max (streamV n c.ss x.s) (c.fp x.p)) (c.ft x.t) + 1) := rfl
  have HT : Hid (okT n c x.s x.p x.t = (hasB n x.s && decide (nextV n c.ss c.fp c.ft x.s x.p x.t ≤ 4611686018427387903))) := rfl
  have HS : Hid (streamV n c.ss x.s = if hasB n x.s then c.ss.getD x.s.toNat 0 else 0) := rfl
  generalize c.N n x.s x.p x.t = rN at HN ⊢
  generalize c.E n x.s x.p x.t = rE at HE ⊢
  generalize okT n c x.s x.p x.t = ok at HN HT
  generalize nextV n c.ss c.fp c.ft x.s x.p x.t = nv at HN HE HX HT
  generalize streamV n c.ss x.s = sv at HX HS
  generalize c.fp x.p = pv at *
  generalize c.ft x.t = tv at *
  clear hal hs6 h bo hp ht
  cases hq : hasB n x.s with
  | false =>
    rw [hq] at KH HE HT
    have HN1 : Hid (rN = 0) := by rw [Hid, HN.out, HT.out]; rfl
    have HE1 : Hid (rE = 1) := HE.out
    simp only [Ac.cells] at KH ⊢
    clear HN HE HX HT HS HO HM KF1 KF2 hq
    go_enter Try.func23, Try.ntmps23
    go_wp2_with fail
    refine KH.out.mono ?_
    rintro e w1 ⟨rfl, hb, _⟩
    go_wp2
    go_ret2
    exact ⟨ret_two HN1.out.symm HE1.out.symm, hb.out⟩
  | true =>
    rw [hq] at KH HE HT HS
    obtain ⟨s0, s1⟩ := hasB_iff.1 hq
    have HR := Lib.hid (fun W' (hW : Below W.heap.size W W') => (HM.out W' hW).rc x.s.toNat (by omega))
    have HR0 := Lib.hid (fun W' (hW : Below W.heap.size W W') => (⟨(HM.out W' hW).c0, (HM.out W' hW).c1, (HM.out W' hW).c2⟩ : _ ∧ _ ∧ _))
    have hsv : sv = c.ss.getD x.s.toNat 0 := HS.out
    rw [← hsv] at HR
    obtain ⟨a0, a1⟩ := HO.out x.s.toNat
    rw [← hsv] at a0 a1
    clear hsv HS HO HM hq
    obtain ⟨m1, hm1⟩ : ∃ m, (if sv < pv then pv else sv) = m := ⟨_, rfl⟩
    obtain ⟨m2, hm2⟩ : ∃ m, (if m1 < tv then tv else m1) = m := ⟨_, rfl⟩
    have HX2 : Hid (nv = m2 + 1) := by rw [Hid, HX.out, max3, hm1, hm2]
    have g0 : 0 ≤ m2 := by rw [← hm2, ← hm1]; split <;> (try split) <;> omega
    have g1 : m2 ≤ 4611686018427387903 := by rw [← hm2, ← hm1]; split <;> (try split) <;> omega
    obtain ⟨xk, xs, xp, xt, xn, ma, ml, mc⟩ := x
    simp only [Ac.cells, Six] at KH KF1 KF2 HR s0 s1 ⊢
    obtain ⟨j, rfl⟩ := Int.eq_ofNat_of_zero_le s0
    rw [Int.toNat_natCast] at HR
    by_cases hle : m2 ≤ 4611686018427387902
    · have HN1 : Hid (rN = m2 + 1) := by rw [Hid, HN.out, HT.out, HX2.out, Bool.true_and, if_pos (by rw [decide_eq_true_iff]; omega)]
      have HE1 : Hid (rE = 0) := by rw [Hid, HE.out, HX2.out, if_pos rfl, if_pos (by omega)]
      clear HN HE HX HT HX2
      go_enter Try.func23, Try.ntmps23
      go_wp2_with fail
      refine KH.out.mono ?_
      rintro e w1 ⟨rfl, hb, hs⟩
      obtain ⟨e0, e1, e2, e3, e4, e5⟩ := hs.out
      have r0 := HR.out _ hb.out
      obtain ⟨r1, r2, r3⟩ := HR0.out _ hb.out
      go_wp2_with fail
      go_quiet (first
        | (go_at_call_of 13 (Value.int .i64 xp); exact Calls.quiet_of_same (KF1.out _ (below_drewN hb.out _)))
        | (go_at_call_of 13 (Value.int .i64 xt); exact Calls.quiet_of_same (KF2.out _ (below_drewN hb.out _))))
      go_wp2
      go_ret2
      exact ⟨ret_two HN1.out.symm HE1.out.symm, below_drewN hb.out _⟩
    · have hm : m2 = 4611686018427387903 := by omega
      have HN1 : Hid (rN = 0) := by rw [Hid, HN.out, HT.out, HX2.out, Bool.true_and, if_neg (by rw [decide_eq_true_iff]; omega)]
      have HE1 : Hid (rE = 3) := by rw [Hid, HE.out, HX2.out, if_pos rfl, if_neg (by omega)]
      have hge : (4611686018427387903 : Int) ≤ m2 := by omega
      clear HN HE HX HT HX2 hm hle
      go_enter Try.func23, Try.ntmps23
      go_wp2_with fail
      refine KH.out.mono ?_
      rintro e w1 ⟨rfl, hb, hs⟩
      obtain ⟨e0, e1, e2, e3, e4, e5⟩ := hs.out
      have r0 := HR.out _ hb.out
      obtain ⟨r1, r2, r3⟩ := HR0.out _ hb.out
      go_wp2_with fail
      go_quiet (first
        | (go_at_call_of 13 (Value.int .i64 xp); exact Calls.quiet_of_same (KF1.out _ (below_drewN hb.out _)))
        | (go_at_call_of 13 (Value.int .i64 xt); exact Calls.quiet_of_same (KF2.out _ (below_drewN hb.out _))))
      go_wp2
      go_ret2
      exact ⟨ret_two HN1.out.symm HE1.out.symm, below_drewN hb.out _⟩
end Go.Proofs.Ytcdkloohdafbpaa
