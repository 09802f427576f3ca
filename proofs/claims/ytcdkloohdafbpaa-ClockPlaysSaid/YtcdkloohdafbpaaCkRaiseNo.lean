/-
  does OF law 09: a Raise that raises nothing.
-/
import Derived.Test.YtcdkloohdafbpaaCkDoesB
namespace Go.Proofs.Ytcdkloohdafbpaa
open Go.RowKit
set_option maxRecDepth 100000 in
set_option maxHeartbeats 4000000 in
theorem does_raise_no_h {w W : World} {B C S P T M R n kk k : Nat} {c : Clk} {lp lt : List (Int × Int)} (h : Plays w W B C S P T M R n kk c lp lt) (pr : PlaysP k n c lp lt) (x : Ac) (hx : AcOk w x) (h0 : x.k = 3) (hq : hasL n x.ml = false) :
    Calls Try.prog 10 #[.pointer (some ⟨C, 0, none⟩), .pointer (some ⟨M, 0, none⟩), .agg x.cells] W fun e w' => e = .returned (.bool true) ∧ ∃ c' lp' lt', Plays w w' B C S P T M R n (kk + 11) c' lp' lt' ∧ PlaysP (k + 1) n c' lp' lt' := by
  obtain ⟨vp, vt, st0⟩ := h
  have st := DoesW.enter st0 x 34
  have KH := Lib.hid (fun W1 (s1 : DoesW w W1 B C S P T M R n kk c c.ss vp vt c.top lp lt W.heap.size x) => (mhas_any s1.pl.md x.ma x.ml x.mc hx.l (hx.a.below s1.pl.bw)).mono fun e w' hh => (⟨hh.1, Lib.hid (s1.below hh.2)⟩ : e = .returned (.bool (hasL n x.ml)) ∧ Hid (DoesW w w' B C S P T M R n kk c c.ss vp vt c.top lp lt W.heap.size x)))
  have KR := Lib.hid (fun W1 ms tp (s1 : DoesW w W1 B C S P T M R n kk c ms vp vt tp lp lt W.heap.size x) => (raise_allL s1.pl.cl x.n x.ma x.ml x.mc hx.l hx.z (fun W' hf => hx.a.below (s1.pl.bw.trans (hf.below s1.pl.bw.size s1.pl.bk.lo.1 s1.pl.bk.lo.2.1 s1.pl.bk.lo.2.2.1 s1.pl.bk.lo.2.2.2.1)))).mono fun e w' hh => (⟨hh.1, Lib.hid (s1.clock hh.2.1 hh.2.2)⟩ : e = .returned (.int .i64 (if okR n x.n x.ml then 0 else 1)) ∧ Hid (DoesW w w' B C S P T M R n kk (c.raise n x.n x.ml) ms vp vt tp lp lt W.heap.size x)))
  have hok : okR n x.n x.ml = false := by unfold okR; rw [hq]; rfl
  have hcr : c.raise n x.n x.ml = c := by unfold Clk.raise; rw [hok]; rfl
  rw [hok, hcr] at KR
  rw [hq] at KH
  have PN := Lib.hid pr.next
  clear hok hcr pr hq
  obtain ⟨xs, xp, xt, xn, ma, ml, mc, rfl⟩ : ∃ xs xp xt xn ma ml mc, x = (⟨3, xs, xp, xt, xn, ma, ml, mc⟩ : Ac) := by
    obtain ⟨xk, xs, xp, xt, xn, ma, ml, mc⟩ := x
    exact ⟨xs, xp, xt, xn, ma, ml, mc, by simp only at h0; rw [h0]⟩
  clear h0
  clear st0 hx
  dsimp only at KH KR
  simp only [Ac.cells] at KH KR ⊢
  have s0 := Lib.hid st; clear st
  go_enter Try.func10, Try.ntmps10
  obtain ⟨c0, c1, c2, c3, c4, c5⟩ := s0.out.si
  go_wp2_with fail
  all_goals (
    refine (KH.out _ s0.out).mono ?_
    rintro e w1 ⟨rfl, s1⟩
    clear s0 c0 c1 c2 c3 c4 c5 KH
    obtain ⟨d0, d1, d2, d3, d4, d5⟩ := s1.out.si
    go_wp2_with fail
    refine (KR.out _ _ _ s1.out).mono ?_
    rintro e w2 ⟨rfl, s2⟩
    go_wp2
    go_ret
    exact ⟨rfl, c, _, _, ⟨_, _, s2.out.pl.mono (by omega)⟩, PN.out⟩)
set_option maxRecDepth 100000 in
set_option maxHeartbeats 4000000 in
theorem does_raise_no_b {w W : World} {B C S P T M R n kk k : Nat} {c : Clk} {lp lt : List (Int × Int)} (h : Plays w W B C S P T M R n kk c lp lt) (pr : PlaysP k n c lp lt) (x : Ac) (hx : AcOk w x) (h0 : x.k = 3) (hq : hasL n x.ml = true) (hn0 : 0 ≤ x.n) (hn1 : 4611686018427387903 < x.n) :
    Calls Try.prog 10 #[.pointer (some ⟨C, 0, none⟩), .pointer (some ⟨M, 0, none⟩), .agg x.cells] W fun e w' => e = .returned (.bool true) ∧ ∃ c' lp' lt', Plays w w' B C S P T M R n (kk + 11) c' lp' lt' ∧ PlaysP (k + 1) n c' lp' lt' := by
  obtain ⟨vp, vt, st0⟩ := h
  have st := DoesW.enter st0 x 34
  have KH := Lib.hid (fun W1 (s1 : DoesW w W1 B C S P T M R n kk c c.ss vp vt c.top lp lt W.heap.size x) => (mhas_any s1.pl.md x.ma x.ml x.mc hx.l (hx.a.below s1.pl.bw)).mono fun e w' hh => (⟨hh.1, Lib.hid (s1.below hh.2)⟩ : e = .returned (.bool (hasL n x.ml)) ∧ Hid (DoesW w w' B C S P T M R n kk c c.ss vp vt c.top lp lt W.heap.size x)))
  have KR := Lib.hid (fun W1 ms tp (s1 : DoesW w W1 B C S P T M R n kk c ms vp vt tp lp lt W.heap.size x) => (raise_allL s1.pl.cl x.n x.ma x.ml x.mc hx.l hx.z (fun W' hf => hx.a.below (s1.pl.bw.trans (hf.below s1.pl.bw.size s1.pl.bk.lo.1 s1.pl.bk.lo.2.1 s1.pl.bk.lo.2.2.1 s1.pl.bk.lo.2.2.2.1)))).mono fun e w' hh => (⟨hh.1, Lib.hid (s1.clock hh.2.1 hh.2.2)⟩ : e = .returned (.int .i64 (if okR n x.n x.ml then 0 else 1)) ∧ Hid (DoesW w w' B C S P T M R n kk (c.raise n x.n x.ml) ms vp vt tp lp lt W.heap.size x)))
  have hok : okR n x.n x.ml = false := by unfold okR; rw [hq, Bool.true_and]; cases hb : mayB x.n with | false => rfl | true => (have := (mayB_iff.1 hb).2; omega)
  have hcr : c.raise n x.n x.ml = c := by unfold Clk.raise; rw [hok]; rfl
  rw [hok, hcr] at KR
  rw [hq] at KH
  have PN := Lib.hid pr.next
  clear hok hcr pr hq
  obtain ⟨xs, xp, xt, xn, ma, ml, mc, rfl⟩ : ∃ xs xp xt xn ma ml mc, x = (⟨3, xs, xp, xt, xn, ma, ml, mc⟩ : Ac) := by
    obtain ⟨xk, xs, xp, xt, xn, ma, ml, mc⟩ := x
    exact ⟨xs, xp, xt, xn, ma, ml, mc, by simp only at h0; rw [h0]⟩
  clear h0
  dsimp only at hn0 hn1
  clear st0 hx
  dsimp only at KH KR
  simp only [Ac.cells] at KH KR ⊢
  have s0 := Lib.hid st; clear st
  go_enter Try.func10, Try.ntmps10
  obtain ⟨c0, c1, c2, c3, c4, c5⟩ := s0.out.si
  go_wp2_with fail
  all_goals (
    refine (KH.out _ s0.out).mono ?_
    rintro e w1 ⟨rfl, s1⟩
    clear s0 c0 c1 c2 c3 c4 c5 KH
    obtain ⟨d0, d1, d2, d3, d4, d5⟩ := s1.out.si
    go_wp2_with fail
    refine (KR.out _ _ _ s1.out).mono ?_
    rintro e w2 ⟨rfl, s2⟩
    go_wp2
    go_ret
    exact ⟨rfl, c, _, _, ⟨_, _, s2.out.pl.mono (by omega)⟩, PN.out⟩)
set_option maxRecDepth 100000 in
set_option maxHeartbeats 4000000 in
theorem does_raise_no_c {w W : World} {B C S P T M R n kk k : Nat} {c : Clk} {lp lt : List (Int × Int)} (h : Plays w W B C S P T M R n kk c lp lt) (pr : PlaysP k n c lp lt) (x : Ac) (hx : AcOk w x) (h0 : x.k = 3) (hq : hasL n x.ml = true) (hn0 : x.n < 0) :
    Calls Try.prog 10 #[.pointer (some ⟨C, 0, none⟩), .pointer (some ⟨M, 0, none⟩), .agg x.cells] W fun e w' => e = .returned (.bool true) ∧ ∃ c' lp' lt', Plays w w' B C S P T M R n (kk + 11) c' lp' lt' ∧ PlaysP (k + 1) n c' lp' lt' := by
  obtain ⟨vp, vt, st0⟩ := h
  have st := DoesW.enter st0 x 34
  have KH := Lib.hid (fun W1 (s1 : DoesW w W1 B C S P T M R n kk c c.ss vp vt c.top lp lt W.heap.size x) => (mhas_any s1.pl.md x.ma x.ml x.mc hx.l (hx.a.below s1.pl.bw)).mono fun e w' hh => (⟨hh.1, Lib.hid (s1.below hh.2)⟩ : e = .returned (.bool (hasL n x.ml)) ∧ Hid (DoesW w w' B C S P T M R n kk c c.ss vp vt c.top lp lt W.heap.size x)))
  have KR := Lib.hid (fun W1 ms tp (s1 : DoesW w W1 B C S P T M R n kk c ms vp vt tp lp lt W.heap.size x) => (raise_allL s1.pl.cl x.n x.ma x.ml x.mc hx.l hx.z (fun W' hf => hx.a.below (s1.pl.bw.trans (hf.below s1.pl.bw.size s1.pl.bk.lo.1 s1.pl.bk.lo.2.1 s1.pl.bk.lo.2.2.1 s1.pl.bk.lo.2.2.2.1)))).mono fun e w' hh => (⟨hh.1, Lib.hid (s1.clock hh.2.1 hh.2.2)⟩ : e = .returned (.int .i64 (if okR n x.n x.ml then 0 else 1)) ∧ Hid (DoesW w w' B C S P T M R n kk (c.raise n x.n x.ml) ms vp vt tp lp lt W.heap.size x)))
  have hok : okR n x.n x.ml = false := by unfold okR; rw [hq, Bool.true_and]; cases hb : mayB x.n with | false => rfl | true => (have := (mayB_iff.1 hb).1; omega)
  have hcr : c.raise n x.n x.ml = c := by unfold Clk.raise; rw [hok]; rfl
  rw [hok, hcr] at KR
  rw [hq] at KH
  have PN := Lib.hid pr.next
  clear hok hcr pr hq
  obtain ⟨xs, xp, xt, xn, ma, ml, mc, rfl⟩ : ∃ xs xp xt xn ma ml mc, x = (⟨3, xs, xp, xt, xn, ma, ml, mc⟩ : Ac) := by
    obtain ⟨xk, xs, xp, xt, xn, ma, ml, mc⟩ := x
    exact ⟨xs, xp, xt, xn, ma, ml, mc, by simp only at h0; rw [h0]⟩
  clear h0
  dsimp only at hn0
  clear st0 hx
  dsimp only at KH KR
  simp only [Ac.cells] at KH KR ⊢
  have s0 := Lib.hid st; clear st
  go_enter Try.func10, Try.ntmps10
  obtain ⟨c0, c1, c2, c3, c4, c5⟩ := s0.out.si
  go_wp2_with fail
  all_goals (
    refine (KH.out _ s0.out).mono ?_
    rintro e w1 ⟨rfl, s1⟩
    clear s0 c0 c1 c2 c3 c4 c5 KH
    obtain ⟨d0, d1, d2, d3, d4, d5⟩ := s1.out.si
    go_wp2_with fail
    refine (KR.out _ _ _ s1.out).mono ?_
    rintro e w2 ⟨rfl, s2⟩
    go_wp2
    go_ret
    exact ⟨rfl, c, _, _, ⟨_, _, s2.out.pl.mono (by omega)⟩, PN.out⟩)
end Go.Proofs.Ytcdkloohdafbpaa
