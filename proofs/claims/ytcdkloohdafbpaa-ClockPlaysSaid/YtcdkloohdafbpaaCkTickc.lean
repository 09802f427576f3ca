/-
  does OF law 09: a Tick (its N is below 0).
-/
import Derived.Test.YtcdkloohdafbpaaCkDoesB
namespace Go.Proofs.Ytcdkloohdafbpaa
open Go.RowKit
set_option maxRecDepth 100000 in
set_option maxHeartbeats 4000000 in
theorem does_tick_c {w W : World} {B C S P T M R n kk k : Nat} {c : Clk} {lp lt : List (Int × Int)} (h : Plays w W B C S P T M R n kk c lp lt) (pr : PlaysP k n c lp lt) (hk : k ≤ 60) (hkk : kk ≤ 1000) (x : Ac) (hx : AcOk w x) (h0 : x.k = 0) (hn0 : x.n < 0) :
    Calls Try.prog 10 #[.pointer (some ⟨C, 0, none⟩), .pointer (some ⟨M, 0, none⟩), .agg x.cells] W fun e w' => e = .returned (.bool true) ∧ ∃ c' lp' lt', Plays w w' B C S P T M R n (kk + 11) c' lp' lt' ∧ PlaysP (k + 1) n c' lp' lt' := by
  obtain ⟨vp, vt, st0⟩ := h
  have st := DoesW.enter st0 x 34
  have hss : c.ss.length = n := ClockAt.sl st0.cl
  have hnp : lp.length ≤ 1000 := by have := pr.np; omega
  have hnt : lt.length ≤ 1000 := by have := pr.nt; omega
  have bo : (∀ i, Okay (c.ss.getD i 0)) ∧ (∀ i, Okay (c.fp i)) ∧ ∀ i, Okay (c.ft i) := ⟨ClockAt.os st0.cl, ClockAt.op st0.cl, ClockAt.oy st0.cl⟩
  have KT := Lib.hid (fun W1 (s1 : DoesW w W1 B C S P T M R n kk c c.ss vp vt c.top lp lt W.heap.size x) => (tick_all s1.pl.cl x.s x.p x.t hx.p hx.t (by unfold maxLen; omega)).mono fun e w' hh => (⟨hh.1, Lib.hid (s1.clock hh.2.1 hh.2.2)⟩ : e = .returned (.tuple #[.int .i64 (c.N n x.s x.p x.t), .int .i64 (c.E n x.s x.p x.t)]) ∧ Hid (DoesW w w' B C S P T M R n (kk + 2) (c.tick n x.s x.p x.t) c.ss vp vt c.top lp lt W.heap.size x)))
  have KN := Lib.hid (fun W1 (s1 : DoesW w W1 B C S P T M R n (kk + 2) (c.tick n x.s x.p x.t) c.ss vp vt c.top lp lt W.heap.size x) => (next_any s1.pl.md bo s1.pl.rp s1.pl.rt hnp hnt pr.fp pr.ft x).mono fun e w' hh => (⟨hh.1, Lib.hid (s1.below hh.2)⟩ : e = .returned (.tuple #[.int .i64 (c.N n x.s x.p x.t), .int .i64 (c.E n x.s x.p x.t)]) ∧ Hid (DoesW w w' B C S P T M R n (kk + 2) (c.tick n x.s x.p x.t) c.ss vp vt c.top lp lt W.heap.size x)))
  obtain ⟨xs, xp, xt, xn, ma, ml, mc, rfl⟩ : ∃ xs xp xt xn ma ml mc, x = (⟨0, xs, xp, xt, xn, ma, ml, mc⟩ : Ac) := by
    obtain ⟨xk, xs, xp, xt, xn, ma, ml, mc⟩ := x
    exact ⟨xs, xp, xt, xn, ma, ml, mc, by simp only at h0; rw [h0]⟩
  clear h0
  dsimp only at hn0
  clear st0 hx bo
  simp only [Ac.cells] at KT KN ⊢
  by_cases ho : okT n c xs xp xt = true
  · have hE : c.E n xs xp xt = 0 := by
      unfold Clk.E
      unfold okT at ho
      rw [Bool.and_eq_true, decide_eq_true_iff] at ho
      rw [if_pos ho.1, if_pos ho.2]
    have hb : hasB n xs = true := by
      unfold okT at ho
      rw [Bool.and_eq_true] at ho
      exact ho.1
    have PN := Lib.hid (pr.tick xs xp xt ho)
    have TK : Hid ((c.tick n xs xp xt).ss = c.ss.set xs.toNat (c.N n xs xp xt) ∧ (c.tick n xs xp xt).top = max c.top (c.N n xs xp xt)) := by
      unfold Hid Clk.tick Clk.N
      rw [if_pos ho, if_pos ho]
      exact ⟨rfl, rfl⟩
    obtain ⟨s0, s9⟩ := hasB_iff.1 hb
    obtain ⟨j, rfl⟩ := Int.eq_ofNat_of_zero_le s0
    rw [Int.toNat_natCast] at TK
    rw [hE] at KT KN
    clear ho pr hE hb
    generalize c.N n (j : Int) xp xt = z at KT KN PN TK
    generalize c.tick n (j : Int) xp xt = c' at KT KN PN TK
    have KF : Hid (∀ W1, DoesW w W1 B C S P T M R n (kk + 2) c' c.ss vp vt c.top lp lt W.heap.size ⟨0, (j : Int), xp, xt, xn, ma, ml, mc⟩ →
        W1.cell? ⟨M, 0, none⟩ = some (.slice (some ⟨R, 0, none⟩) n n) ∧ W1.cell? ⟨R, j, none⟩ = some (.int .i64 (c.ss.getD j 0)) ∧ W1.frozen? ⟨R, j, none⟩ = false) := fun W1 s1 => ⟨s1.pl.md.c0, s1.pl.md.rc j (by omega), s1.pl.md.rf j⟩
    have KS : Hid (∀ W1, DoesW w W1 B C S P T M R n (kk + 2) c' c.ss vp vt c.top lp lt W.heap.size ⟨0, (j : Int), xp, xt, xn, ma, ml, mc⟩ → Hid (DoesW w (W1.setCell ⟨R, j, none⟩ (.int .i64 z)) B C S P T M R n (kk + 2) c' (c.ss.set j z) vp vt c.top lp lt W.heap.size ⟨0, (j : Int), xp, xt, xn, ma, ml, mc⟩)) := fun W1 s1 => s1.setR j (by omega) z
    generalize c.ss.getD j 0 = old at KF
    have s0 := Lib.hid st; clear st
    go_enter Try.func10, Try.ntmps10
    obtain ⟨c0, c1, c2, c3, c4, c5⟩ := s0.out.si
    go_wp2_with fail
    all_goals (
      refine (KT.out _ s0.out).mono ?_
      rintro e w1 ⟨rfl, s1⟩
      clear s0 c0 c1 c2 c3 c4 c5
      obtain ⟨d0, d1, d2, d3, d4, d5⟩ := s1.out.si
      go_wp2_with fail
      refine (KN.out _ s1.out).mono ?_
      rintro e w2 ⟨rfl, s2⟩
      clear s1 d0 d1 d2 d3 d4 d5
      obtain ⟨d0, d1, d2, d3, d4, d5⟩ := s2.out.si
      obtain ⟨e0, e1, e2⟩ := KF.out _ s2.out
      go_wp2_with fail
      go_still_tail 8, (by kernel_rfl)
      change wpList _ _ _ _ _ w2.drew
      have s3 := Lib.hid s2.out.drew
      clear d0 d1 d2 d3 d4 d5 e0 e1 e2
      obtain ⟨e0, e1, e2⟩ := KF.out _ s3.out
      generalize w2.drew = w3 at *
      go_wp2_with fail
      have s4 := KS.out _ s3.out
      generalize w3.setCell ⟨R, j, none⟩ (.int .i64 z) = w4 at *
      clear s2 s3 e0 e1 e2 KF KS KT KN
      obtain ⟨d0, d1, d2, d3, d4, d5⟩ := s4.out.si
      have K1 := Lib.hid (s4.out.drew.with1 hnp xp z)
      have f1 := s4.out.pl.md.c1
      go_cut [] (fun wx => ∃ (a1 : Option Addr) (n1 q1 : Nat), Hid (DoesW w wx B C S P T M R n (kk + 2) c' (c.ss.set j z) (.slice a1 n1 q1) vt c.top (withL lp xp z) lt W.heap.size ⟨0, (j : Int), xp, xt, xn, ma, ml, mc⟩))
      case first =>
        go_region_with (go_at_call 17; refine K1.out.mono ?_; rintro e w6 ⟨a1, n1, q1, rfl, f1, f2, s6⟩)
        all_goals go_wp2_with fail
        all_goals go_meet
        all_goals exact ⟨a1, n1, q1, s6⟩
      case rest =>

      obtain ⟨a1, n1, q1, s6⟩ := hcut
      clear s4 K1 f1 d0 d1 d2 d3 d4 d5
      obtain ⟨d0, d1, d2, d3, d4, d5⟩ := s6.out.si
      go_wp2_with fail
      have K2 := Lib.hid (s6.out.drew.with2 hnt xt z)
      have f1 := s6.out.pl.md.c2
      go_cut [] (fun wx => ∃ (a2 : Option Addr) (n2 q2 : Nat), Hid (DoesW w wx B C S P T M R n (kk + 2) c' (c.ss.set j z) (.slice a1 n1 q1) (.slice a2 n2 q2) c.top (withL lp xp z) (withL lt xt z) W.heap.size ⟨0, (j : Int), xp, xt, xn, ma, ml, mc⟩))
      case first =>
        go_region_with (go_at_call 17; refine K2.out.mono ?_; rintro e w6 ⟨a2, n2, q2, rfl, f1, f2, s6⟩)
        all_goals go_wp2_with fail
        all_goals go_meet
        all_goals exact ⟨a2, n2, q2, s6⟩
      case rest =>

      obtain ⟨a2, n2, q2, s10⟩ := hcut
      clear s6 K2 f1 d0 d1 d2 d3 d4 d5
      have g1 := s10.out.pl.md.c3
      have g2 := s10.out.pl.md.mf 3
      obtain ⟨tp, htp⟩ : ∃ tp, (if c.top < z then z else c.top) = tp := ⟨_, rfl⟩
      have s12 := Lib.hid (s10.out.set3 tp)
      have TP : Hid (c'.top = tp) := by rw [Hid, TK.out.2, maxIf, htp]
      have TS := Lib.hid TK.out.1
      clear s10 TK
      go_wp2
      go_ret
      exact ⟨rfl, c', _, _, ⟨_, _, by rw [TP.out, TS.out]; exact s12.out.pl.mono (by omega)⟩, PN.out⟩)
  · have hE : ((c.E n xs xp xt) == 0) = false := by
      rw [beq_eq_false_iff_ne]
      unfold Clk.E
      unfold okT at ho
      by_cases h1 : hasB n xs = true
      · have h2 : ¬ nextV n c.ss c.fp c.ft xs xp xt ≤ 4611686018427387903 := by simpa [h1] using ho
        rw [if_pos h1, if_neg h2]; omega
      · rw [if_neg h1]; omega
    have hc : c.tick n xs xp xt = c := by unfold Clk.tick; rw [if_neg ho]
    have PN := Lib.hid pr.next
    rw [hc] at KT KN
    clear hc ho pr
    generalize c.N n xs xp xt = rN at KT KN
    generalize c.E n xs xp xt = rE at KT KN hE
    have s0 := Lib.hid st; clear st
    go_enter Try.func10, Try.ntmps10
    obtain ⟨c0, c1, c2, c3, c4, c5⟩ := s0.out.si
    go_wp2_with fail
    all_goals (
      refine (KT.out _ s0.out).mono ?_
      rintro e w1 ⟨rfl, s1⟩
      clear s0 c0 c1 c2 c3 c4 c5
      obtain ⟨d0, d1, d2, d3, d4, d5⟩ := s1.out.si
      go_wp2_with fail
      refine (KN.out _ s1.out).mono ?_
      rintro e w2 ⟨rfl, s2⟩
      go_wp2
      go_ret
      exact ⟨rfl, _, _, _, ⟨vp, vt, s2.out.pl.mono (by omega)⟩, PN.out⟩)
end Go.Proofs.Ytcdkloohdafbpaa
