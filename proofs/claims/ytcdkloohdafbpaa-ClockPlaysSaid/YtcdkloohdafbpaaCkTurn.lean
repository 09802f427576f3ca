/-
  does OF law 09: a Turn that turns.
-/
import Derived.Test.YtcdkloohdafbpaaCkDoesB
namespace Go.Proofs.Ytcdkloohdafbpaa
open Go.RowKit
theorem turn_ss (c : Clk) (p z : Int) : (c.turn p z).ss = c.ss := by
  unfold Clk.turn; split <;> rfl
theorem PlaysP.turn {k n : Nat} {c : Clk} {lp lt : List (Int × Int)} (h : PlaysP k n c lp lt) (p z : Int) (hp : 0 ≤ p) (hz : mayB z = true) : PlaysP (k + 1) n (c.turn p z) (withL lp p z) lt := by
  have h' := h.next
  unfold Clk.turn
  rw [if_pos ⟨hp, hz⟩]
  refine ⟨by have := withL_len lp p z; have := h.np; omega, h'.nt, fun i => ?_, h'.ft, h'.gt⟩
  show findL (withL lp p z) i = updI c.fp p z i
  rw [findL_with, h.fp]; unfold updI
  by_cases e : i = p <;> simp [e, hp]
set_option maxRecDepth 100000 in
set_option maxHeartbeats 4000000 in
theorem does_turn_yes {w W : World} {B C S P T M R n kk k : Nat} {c : Clk} {lp lt : List (Int × Int)} (h : Plays w W B C S P T M R n kk c lp lt) (pr : PlaysP k n c lp lt) (hk : k ≤ 60) (hkk : kk ≤ 1000) (x : Ac) (hx : AcOk w x) (h0 : x.k = 4) (hn0 : 0 ≤ x.n) (hn1 : x.n ≤ 4611686018427387903) (hp0 : 0 ≤ x.p) :
    Calls Try.prog 10 #[.pointer (some ⟨C, 0, none⟩), .pointer (some ⟨M, 0, none⟩), .agg x.cells] W fun e w' => e = .returned (.bool true) ∧ ∃ c' lp' lt', Plays w w' B C S P T M R n (kk + 11) c' lp' lt' ∧ PlaysP (k + 1) n c' lp' lt' := by
  obtain ⟨vp, vt, st0⟩ := h
  have st := DoesW.enter st0 x 34
  have hss : c.ss.length = n := ClockAt.sl st0.cl
  have hnp : lp.length ≤ 1000 := by have := pr.np; omega
  have hz : mayB x.n = true := mayB_iff.2 ⟨hn0, hn1⟩
  have bo : (∀ i, Okay (c.ss.getD i 0)) ∧ (∀ i, Okay (c.fp i)) ∧ ∀ i, Okay (c.ft i) := ⟨ClockAt.os st0.cl, ClockAt.op st0.cl, ClockAt.oy st0.cl⟩
  have KT := Lib.hid (fun W1 (s1 : DoesW w W1 B C S P T M R n kk c c.ss vp vt c.top lp lt W.heap.size x) => (turn_all s1.pl.cl x.p x.n hx.p (by unfold maxLen; omega)).mono fun e w' hh => (⟨hh.1, Lib.hid (s1.clock hh.2.1 hh.2.2)⟩ : e = .returned (.tuple #[]) ∧ Hid (DoesW w w' B C S P T M R n (kk + 1) (c.turn x.p x.n) c.ss vp vt c.top lp lt W.heap.size x)))
  obtain ⟨xs, xp, xt, xn, ma, ml, mc, rfl⟩ : ∃ xs xp xt xn ma ml mc, x = (⟨4, xs, xp, xt, xn, ma, ml, mc⟩ : Ac) := by
    obtain ⟨xk, xs, xp, xt, xn, ma, ml, mc⟩ := x
    exact ⟨xs, xp, xt, xn, ma, ml, mc, by simp only at h0; rw [h0]⟩
  clear h0
  dsimp only at hn0 hn1 hp0 hz
  clear st0 hx bo
  have SS := Lib.hid (turn_ss c xp xn)
  have TT : Hid ((c.turn xp xn).top = max c.top xn) := by unfold Hid Clk.turn; rw [if_pos ⟨hp0, hz⟩]
  dsimp only at KT
  simp only [Ac.cells] at KT ⊢
  have PN := Lib.hid (pr.turn xp xn hp0 hz)
  clear pr hz
  generalize c.turn xp xn = c' at KT PN SS TT
  have s0 := Lib.hid st; clear st
  go_enter Try.func10, Try.ntmps10
  obtain ⟨c0, c1, c2, c3, c4, c5⟩ := s0.out.si
  go_wp2_with fail
  all_goals (
    refine (KT.out _ s0.out).mono ?_
    rintro e w1 ⟨rfl, s1⟩
    clear s0 c0 c1 c2 c3 c4 c5 KT
    obtain ⟨d0, d1, d2, d3, d4, d5⟩ := s1.out.si
    go_wp2_with fail
    have K1 := Lib.hid (s1.out.drew.with1 hnp xp xn)
    have f1 := s1.out.pl.md.c1
    go_cut [] (fun wx => ∃ (a1 : Option Addr) (n1 q1 : Nat), Hid (DoesW w wx B C S P T M R n (kk + 1) c' c.ss (.slice a1 n1 q1) vt c.top (withL lp xp xn) lt W.heap.size ⟨4, xs, xp, xt, xn, ma, ml, mc⟩))
    case first =>
      go_region_with (go_at_call 17; refine K1.out.mono ?_; rintro e w6 ⟨a1, n1, q1, rfl, f1, f2, s6⟩)
      all_goals go_wp2_with fail
      all_goals go_meet
      all_goals exact ⟨a1, n1, q1, s6⟩
    case rest =>

    obtain ⟨a1, n1, q1, s6⟩ := hcut
    clear s1 K1 f1 d0 d1 d2 d3 d4 d5
    obtain ⟨d0, d1, d2, d3, d4, d5⟩ := s6.out.si
    have g1 := s6.out.pl.md.c3
    have g2 := s6.out.pl.md.mf 3
    obtain ⟨tp, htp⟩ : ∃ tp, (if c.top < xn then xn else c.top) = tp := ⟨_, rfl⟩
    have s12 := Lib.hid (s6.out.drew.set3 tp)
    have TP : Hid (c'.top = tp) := by rw [Hid, TT.out, maxIf, htp]
    clear TT
    go_wp2_with fail
    go_region
    all_goals go_wp2
    all_goals go_ret
    all_goals exact ⟨rfl, c', _, _, ⟨_, _, by rw [TP.out, SS.out]; exact s12.out.pl.mono (by omega)⟩, PN.out⟩)
end Go.Proofs.Ytcdkloohdafbpaa
