/-
  does OF law 09: a Turn that turns nothing.
-/
import Derived.Test.YtcdkloohdafbpaaCkDoesB
namespace Go.Proofs.Ytcdkloohdafbpaa
open Go.RowKit
theorem PlaysP.turn_no {k n : Nat} {c : Clk} {lp lt : List (Int × Int)} (h : PlaysP k n c lp lt) (p z : Int) (ho : ¬ (0 ≤ p ∧ mayB z = true)) : PlaysP (k + 1) n (c.turn p z) lp lt ∧ (c.turn p z).ss = c.ss ∧ (c.turn p z).top = c.top := by
  unfold Clk.turn; rw [if_neg ho]; exact ⟨h.next, rfl, rfl⟩
set_option maxRecDepth 100000 in
set_option maxHeartbeats 4000000 in
theorem does_turn_no_p {w W : World} {B C S P T M R n kk k : Nat} {c : Clk} {lp lt : List (Int × Int)} (h : Plays w W B C S P T M R n kk c lp lt) (pr : PlaysP k n c lp lt) (hkk : kk ≤ 1000) (x : Ac) (hx : AcOk w x) (h0 : x.k = 4) (hp0 : x.p < 0) :
    Calls Try.prog 10 #[.pointer (some ⟨C, 0, none⟩), .pointer (some ⟨M, 0, none⟩), .agg x.cells] W fun e w' => e = .returned (.bool true) ∧ ∃ c' lp' lt', Plays w w' B C S P T M R n (kk + 11) c' lp' lt' ∧ PlaysP (k + 1) n c' lp' lt' := by
  obtain ⟨vp, vt, st0⟩ := h
  have st := DoesW.enter st0 x 34
  have hss : c.ss.length = n := ClockAt.sl st0.cl
  have bo : (∀ i, Okay (c.ss.getD i 0)) ∧ (∀ i, Okay (c.fp i)) ∧ ∀ i, Okay (c.ft i) := ⟨ClockAt.os st0.cl, ClockAt.op st0.cl, ClockAt.oy st0.cl⟩
  have KT := Lib.hid (fun W1 (s1 : DoesW w W1 B C S P T M R n kk c c.ss vp vt c.top lp lt W.heap.size x) => (turn_all s1.pl.cl x.p x.n hx.p (by unfold maxLen; omega)).mono fun e w' hh => (⟨hh.1, Lib.hid (s1.clock hh.2.1 hh.2.2)⟩ : e = .returned (.tuple #[]) ∧ Hid (DoesW w w' B C S P T M R n (kk + 1) (c.turn x.p x.n) c.ss vp vt c.top lp lt W.heap.size x)))
  have PQ := Lib.hid (pr.turn_no x.p x.n (fun h => by have := h.1; omega))
  obtain ⟨xs, xp, xt, xn, ma, ml, mc, rfl⟩ : ∃ xs xp xt xn ma ml mc, x = (⟨4, xs, xp, xt, xn, ma, ml, mc⟩ : Ac) := by
    obtain ⟨xk, xs, xp, xt, xn, ma, ml, mc⟩ := x
    exact ⟨xs, xp, xt, xn, ma, ml, mc, by simp only at h0; rw [h0]⟩
  clear h0
  dsimp only at hp0
  clear st0 hx bo pr
  dsimp only at KT PQ
  simp only [Ac.cells] at KT ⊢
  generalize c.turn xp xn = c' at KT PQ
  have s0 := Lib.hid st; clear st
  go_enter Try.func10, Try.ntmps10
  obtain ⟨c0, c1, c2, c3, c4, c5⟩ := s0.out.si
  go_wp2_with fail
  all_goals (
    refine (KT.out _ s0.out).mono ?_
    rintro e w1 ⟨rfl, s1⟩
    clear s0 c0 c1 c2 c3 c4 c5 KT
    obtain ⟨d0, d1, d2, d3, d4, d5⟩ := s1.out.si
    go_wp2
    all_goals go_ret
    all_goals exact ⟨rfl, c', _, _, ⟨_, _, by rw [PQ.out.2.1, PQ.out.2.2]; exact s1.out.pl.mono (by omega)⟩, PQ.out.1⟩)
set_option maxRecDepth 100000 in
set_option maxHeartbeats 4000000 in
theorem does_turn_no_b {w W : World} {B C S P T M R n kk k : Nat} {c : Clk} {lp lt : List (Int × Int)} (h : Plays w W B C S P T M R n kk c lp lt) (pr : PlaysP k n c lp lt) (hkk : kk ≤ 1000) (x : Ac) (hx : AcOk w x) (h0 : x.k = 4) (hn0 : 0 ≤ x.n) (hn1 : 4611686018427387903 < x.n) :
    Calls Try.prog 10 #[.pointer (some ⟨C, 0, none⟩), .pointer (some ⟨M, 0, none⟩), .agg x.cells] W fun e w' => e = .returned (.bool true) ∧ ∃ c' lp' lt', Plays w w' B C S P T M R n (kk + 11) c' lp' lt' ∧ PlaysP (k + 1) n c' lp' lt' := by
  obtain ⟨vp, vt, st0⟩ := h
  have st := DoesW.enter st0 x 34
  have hss : c.ss.length = n := ClockAt.sl st0.cl
  have bo : (∀ i, Okay (c.ss.getD i 0)) ∧ (∀ i, Okay (c.fp i)) ∧ ∀ i, Okay (c.ft i) := ⟨ClockAt.os st0.cl, ClockAt.op st0.cl, ClockAt.oy st0.cl⟩
  have KT := Lib.hid (fun W1 (s1 : DoesW w W1 B C S P T M R n kk c c.ss vp vt c.top lp lt W.heap.size x) => (turn_all s1.pl.cl x.p x.n hx.p (by unfold maxLen; omega)).mono fun e w' hh => (⟨hh.1, Lib.hid (s1.clock hh.2.1 hh.2.2)⟩ : e = .returned (.tuple #[]) ∧ Hid (DoesW w w' B C S P T M R n (kk + 1) (c.turn x.p x.n) c.ss vp vt c.top lp lt W.heap.size x)))
  have PQ := Lib.hid (pr.turn_no x.p x.n (fun h => by have := (mayB_iff.1 h.2).2; omega))
  obtain ⟨xs, xp, xt, xn, ma, ml, mc, rfl⟩ : ∃ xs xp xt xn ma ml mc, x = (⟨4, xs, xp, xt, xn, ma, ml, mc⟩ : Ac) := by
    obtain ⟨xk, xs, xp, xt, xn, ma, ml, mc⟩ := x
    exact ⟨xs, xp, xt, xn, ma, ml, mc, by simp only at h0; rw [h0]⟩
  clear h0
  dsimp only at hn0 hn1
  clear st0 hx bo pr
  dsimp only at KT PQ
  simp only [Ac.cells] at KT ⊢
  generalize c.turn xp xn = c' at KT PQ
  have s0 := Lib.hid st; clear st
  go_enter Try.func10, Try.ntmps10
  obtain ⟨c0, c1, c2, c3, c4, c5⟩ := s0.out.si
  go_wp2_with fail
  all_goals (
    refine (KT.out _ s0.out).mono ?_
    rintro e w1 ⟨rfl, s1⟩
    clear s0 c0 c1 c2 c3 c4 c5 KT
    obtain ⟨d0, d1, d2, d3, d4, d5⟩ := s1.out.si
    go_wp2
    all_goals go_ret
    all_goals exact ⟨rfl, c', _, _, ⟨_, _, by rw [PQ.out.2.1, PQ.out.2.2]; exact s1.out.pl.mono (by omega)⟩, PQ.out.1⟩)
set_option maxRecDepth 100000 in
set_option maxHeartbeats 4000000 in
theorem does_turn_no_c {w W : World} {B C S P T M R n kk k : Nat} {c : Clk} {lp lt : List (Int × Int)} (h : Plays w W B C S P T M R n kk c lp lt) (pr : PlaysP k n c lp lt) (hkk : kk ≤ 1000) (x : Ac) (hx : AcOk w x) (h0 : x.k = 4) (hn0 : x.n < 0) :
    Calls Try.prog 10 #[.pointer (some ⟨C, 0, none⟩), .pointer (some ⟨M, 0, none⟩), .agg x.cells] W fun e w' => e = .returned (.bool true) ∧ ∃ c' lp' lt', Plays w w' B C S P T M R n (kk + 11) c' lp' lt' ∧ PlaysP (k + 1) n c' lp' lt' := by
  obtain ⟨vp, vt, st0⟩ := h
  have st := DoesW.enter st0 x 34
  have hss : c.ss.length = n := ClockAt.sl st0.cl
  have bo : (∀ i, Okay (c.ss.getD i 0)) ∧ (∀ i, Okay (c.fp i)) ∧ ∀ i, Okay (c.ft i) := ⟨ClockAt.os st0.cl, ClockAt.op st0.cl, ClockAt.oy st0.cl⟩
  have KT := Lib.hid (fun W1 (s1 : DoesW w W1 B C S P T M R n kk c c.ss vp vt c.top lp lt W.heap.size x) => (turn_all s1.pl.cl x.p x.n hx.p (by unfold maxLen; omega)).mono fun e w' hh => (⟨hh.1, Lib.hid (s1.clock hh.2.1 hh.2.2)⟩ : e = .returned (.tuple #[]) ∧ Hid (DoesW w w' B C S P T M R n (kk + 1) (c.turn x.p x.n) c.ss vp vt c.top lp lt W.heap.size x)))
  have PQ := Lib.hid (pr.turn_no x.p x.n (fun h => by have := (mayB_iff.1 h.2).1; omega))
  obtain ⟨xs, xp, xt, xn, ma, ml, mc, rfl⟩ : ∃ xs xp xt xn ma ml mc, x = (⟨4, xs, xp, xt, xn, ma, ml, mc⟩ : Ac) := by
    obtain ⟨xk, xs, xp, xt, xn, ma, ml, mc⟩ := x
    exact ⟨xs, xp, xt, xn, ma, ml, mc, by simp only at h0; rw [h0]⟩
  clear h0
  dsimp only at hn0
  clear st0 hx bo pr
  dsimp only at KT PQ
  simp only [Ac.cells] at KT ⊢
  generalize c.turn xp xn = c' at KT PQ
  have s0 := Lib.hid st; clear st
  go_enter Try.func10, Try.ntmps10
  obtain ⟨c0, c1, c2, c3, c4, c5⟩ := s0.out.si
  go_wp2_with fail
  all_goals (
    refine (KT.out _ s0.out).mono ?_
    rintro e w1 ⟨rfl, s1⟩
    clear s0 c0 c1 c2 c3 c4 c5 KT
    obtain ⟨d0, d1, d2, d3, d4, d5⟩ := s1.out.si
    go_wp2
    all_goals go_ret
    all_goals exact ⟨rfl, c', _, _, ⟨_, _, by rw [PQ.out.2.1, PQ.out.2.2]; exact s1.out.pl.mono (by omega)⟩, PQ.out.1⟩)
end Go.Proofs.Ytcdkloohdafbpaa
