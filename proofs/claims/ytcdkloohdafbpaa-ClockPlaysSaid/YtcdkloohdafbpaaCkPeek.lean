/-
  does OF law 09: a Peek.
-/
import Derived.Test.YtcdkloohdafbpaaCkDoesB
namespace Go.Proofs.Ytcdkloohdafbpaa
open Go.RowKit
set_option maxRecDepth 100000 in
set_option maxHeartbeats 4000000 in
theorem does_peek {w W : World} {B C S P T M R n kk k : Nat} {c : Clk} {lp lt : List (Int × Int)} (h : Plays w W B C S P T M R n kk c lp lt) (pr : PlaysP k n c lp lt) (hk : k ≤ 60) (x : Ac) (hx : AcOk w x) (h0 : x.k = 1) :
    Calls Try.prog 10 #[.pointer (some ⟨C, 0, none⟩), .pointer (some ⟨M, 0, none⟩), .agg x.cells] W fun e w' => e = .returned (.bool true) ∧ ∃ c' lp' lt', Plays w w' B C S P T M R n (kk + 11) c' lp' lt' ∧ PlaysP (k + 1) n c' lp' lt' := by
  obtain ⟨vp, vt, st0⟩ := h
  have st := DoesW.enter st0 x 34
  have hss : c.ss.length = n := ClockAt.sl st0.cl
  have hnp : lp.length ≤ 1000 := by have := pr.np; omega
  have hnt : lt.length ≤ 1000 := by have := pr.nt; omega
  have bo : (∀ i, Okay (c.ss.getD i 0)) ∧ (∀ i, Okay (c.fp i)) ∧ ∀ i, Okay (c.ft i) := ⟨ClockAt.os st0.cl, ClockAt.op st0.cl, ClockAt.oy st0.cl⟩
  have KT := Lib.hid (fun W1 (s1 : DoesW w W1 B C S P T M R n kk c c.ss vp vt c.top lp lt W.heap.size x) => (peek_all s1.pl.cl x.s x.p x.t hx.p hx.t).mono fun e w' hh => (⟨hh.1, Lib.hid (s1.below hh.2)⟩ : e = .returned (.tuple #[.int .i64 (c.N n x.s x.p x.t), .int .i64 (c.E n x.s x.p x.t)]) ∧ Hid (DoesW w w' B C S P T M R n kk c c.ss vp vt c.top lp lt W.heap.size x)))
  have KN := Lib.hid (fun W1 (s1 : DoesW w W1 B C S P T M R n kk c c.ss vp vt c.top lp lt W.heap.size x) => (next_any s1.pl.md bo s1.pl.rp s1.pl.rt hnp hnt pr.fp pr.ft x).mono fun e w' hh => (⟨hh.1, Lib.hid (s1.below hh.2)⟩ : e = .returned (.tuple #[.int .i64 (c.N n x.s x.p x.t), .int .i64 (c.E n x.s x.p x.t)]) ∧ Hid (DoesW w w' B C S P T M R n kk c c.ss vp vt c.top lp lt W.heap.size x)))
  obtain ⟨xs, xp, xt, xn, ma, ml, mc, rfl⟩ : ∃ xs xp xt xn ma ml mc, x = (⟨1, xs, xp, xt, xn, ma, ml, mc⟩ : Ac) := by
    obtain ⟨xk, xs, xp, xt, xn, ma, ml, mc⟩ := x
    exact ⟨xs, xp, xt, xn, ma, ml, mc, by simp only at h0; rw [h0]⟩
  clear h0
  clear st0 hx bo
  simp only [Ac.cells] at KT KN ⊢
  have PN := Lib.hid pr.next
  clear pr
  generalize c.N n xs xp xt = rN at KT KN
  generalize c.E n xs xp xt = rE at KT KN
  have s0 := Lib.hid st; clear st
  go_enter Try.func10, Try.ntmps10
  obtain ⟨c0, c1, c2, c3, c4, c5⟩ := s0.out.si
  go_wp2_with fail
  all_goals (
    refine (KT.out _ s0.out).mono ?_
    rintro e w1 ⟨rfl, s1⟩
    clear s0 c0 c1 c2 c3 c4 c5
    obtain ⟨d0, d1, d2, d3, d4, d5⟩ := s1.out.si
    go_wp2_with fail
    refine (KN.out _ s1.out).mono ?_
    rintro e w2 ⟨rfl, s2⟩
    go_wp2
    go_ret
    exact ⟨rfl, _, _, _, ⟨vp, vt, s2.out.pl.mono (by omega)⟩, PN.out⟩)
end Go.Proofs.Ytcdkloohdafbpaa
