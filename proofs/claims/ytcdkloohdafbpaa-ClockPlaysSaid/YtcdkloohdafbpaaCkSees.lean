/-
  does OF law 09: a Sees.
-/
import Derived.Test.YtcdkloohdafbpaaCkDoesB
namespace Go.Proofs.Ytcdkloohdafbpaa
open Go.RowKit
theorem PlaysP.sees_no {k n : Nat} {c : Clk} {lp lt : List (Int × Int)} (h : PlaysP k n c lp lt) (t p : Int) (hp : ¬ 0 ≤ p) : PlaysP (k + 1) n (c.sees t p) lp lt := by
  unfold Clk.sees; rw [if_neg (by omega)]; exact h.next
theorem PlaysP.sees {k n : Nat} {c : Clk} {lp lt : List (Int × Int)} (h : PlaysP k n c lp lt) (t p : Int) (hp : 0 ≤ p) : PlaysP (k + 1) n (c.sees t p) lp (withL lt t (max (findL lt t) (findL lp p))) := by
  rw [h.ft, h.fp]
  have h' := h.next
  unfold Clk.sees
  by_cases ht : 0 ≤ t
  · rw [if_pos ⟨ht, hp⟩]
    refine ⟨h'.np, by have := withL_len lt t (max (c.ft t) (c.fp p)); have := h.nt; omega, h'.fp, fun i => ?_, fun i hi => ?_⟩
    · show findL (withL lt t _) i = updI c.ft t _ i
      rw [findL_with, h.ft]; unfold updI
      by_cases e : i = t <;> simp [e, ht]
    · show updI c.ft t _ i = 0
      unfold updI; rw [if_neg (by omega)]; exact h.gt i hi
  · rw [if_neg (by omega)]
    unfold withL; rw [if_pos (by omega)]; exact h'
theorem DoesW.with2s {w W : World} {B C S P T M R n kk G : Nat} {c : Clk} {ms : List Int} {vp vt : Value} {top : Int} {lp lt : List (Int × Int)} {x : Ac} (h : DoesW w W B C S P T M R n kk c ms vp vt top lp lt G x) (nt : lt.length ≤ 1000) (key z : Int) :
    Calls Try.prog 17 #[vt, .int .i64 key, .int .i64 z] W fun e w' => ∃ (a : Option Addr) (N q : Nat), e = .returned (.slice a N q) ∧ w'.cell? ⟨M, 2, none⟩ = some vt ∧ w'.frozen? ⟨M, 2, none⟩ = false ∧ (w'.cell? ⟨M, 1, none⟩ = some vp ∧ w'.cell? ⟨G, 2, none⟩ = some (.int .i64 x.p) ∧ w'.cell? ⟨G, 3, none⟩ = some (.int .i64 x.t)) ∧ ((w'.setCell ⟨M, 2, none⟩ (.slice a N q)).cell? ⟨M, 1, none⟩ = some vp ∧ (w'.setCell ⟨M, 2, none⟩ (.slice a N q)).cell? ⟨G, 2, none⟩ = some (.int .i64 x.p) ∧ (w'.setCell ⟨M, 2, none⟩ (.slice a N q)).cell? ⟨G, 3, none⟩ = some (.int .i64 x.t)) ∧ Hid (DoesW w (w'.setCell ⟨M, 2, none⟩ (.slice a N q)) B C S P T M R n kk c ms vp (.slice a N q) top lp (withL lt key z) G x) :=
  (with_row h.pl.rt nt h.pl.bs key z).mono fun _ _ ⟨v', e, hr, hb⟩ => by
    obtain ⟨a, q, rfl, _⟩ := hr.at
    have h1 := h.below hb
    have h2 := h1.set2 hr
    exact ⟨a, _, q, e, h1.pl.md.c2, h1.pl.md.mf 2, ⟨h1.pl.md.c1, h1.si.2.2.1, h1.si.2.2.2.1⟩, ⟨h2.pl.md.c1, h2.si.2.2.1, h2.si.2.2.2.1⟩, h2⟩
theorem sees_ss (c : Clk) (t p : Int) : (c.sees t p).ss = c.ss ∧ (c.sees t p).top = c.top := by
  unfold Clk.sees; split <;> exact ⟨rfl, rfl⟩
set_option maxRecDepth 100000 in
set_option maxHeartbeats 4000000 in
theorem does_sees {w W : World} {B C S P T M R n kk k : Nat} {c : Clk} {lp lt : List (Int × Int)} (h : Plays w W B C S P T M R n kk c lp lt) (pr : PlaysP k n c lp lt) (hk : k ≤ 60) (hkk : kk ≤ 1000) (x : Ac) (hx : AcOk w x) (h0 : x.k = 2) :
    Calls Try.prog 10 #[.pointer (some ⟨C, 0, none⟩), .pointer (some ⟨M, 0, none⟩), .agg x.cells] W fun e w' => e = .returned (.bool true) ∧ ∃ c' lp' lt', Plays w w' B C S P T M R n (kk + 11) c' lp' lt' ∧ PlaysP (k + 1) n c' lp' lt' := by
  obtain ⟨vp, vt, st0⟩ := h
  have st := DoesW.enter st0 x 34
  have hss : c.ss.length = n := ClockAt.sl st0.cl
  have hnp : lp.length ≤ 1000 := by have := pr.np; omega
  have hnt : lt.length ≤ 1000 := by have := pr.nt; omega
  have bo : (∀ i, Okay (c.ss.getD i 0)) ∧ (∀ i, Okay (c.fp i)) ∧ ∀ i, Okay (c.ft i) := ⟨ClockAt.os st0.cl, ClockAt.op st0.cl, ClockAt.oy st0.cl⟩
  have KS := Lib.hid (fun W1 (s1 : DoesW w W1 B C S P T M R n kk c c.ss vp vt c.top lp lt W.heap.size x) => (sees_all s1.pl.cl x.t x.p hx.t hx.p (by unfold maxLen; omega)).mono fun e w' hh => (⟨hh.1, Lib.hid (s1.clock hh.2.1 hh.2.2)⟩ : e = .returned (.tuple #[]) ∧ Hid (DoesW w w' B C S P T M R n (kk + 1) (c.sees x.t x.p) c.ss vp vt c.top lp lt W.heap.size x)))
  have KF1 := Lib.hid (fun W1 (s1 : DoesW w W1 B C S P T M R n (kk + 1) (c.sees x.t x.p) c.ss vp vt c.top lp lt W.heap.size x) => find_row s1.pl.rt hnt x.t)
  have KF2 := Lib.hid (fun W1 (s1 : DoesW w W1 B C S P T M R n (kk + 1) (c.sees x.t x.p) c.ss vp vt c.top lp lt W.heap.size x) => find_row s1.pl.rp hnp x.p)
  obtain ⟨xs, xp, xt, xn, ma, ml, mc, rfl⟩ : ∃ xs xp xt xn ma ml mc, x = (⟨2, xs, xp, xt, xn, ma, ml, mc⟩ : Ac) := by
    obtain ⟨xk, xs, xp, xt, xn, ma, ml, mc⟩ := x
    exact ⟨xs, xp, xt, xn, ma, ml, mc, by simp only at h0; rw [h0]⟩
  clear h0
  clear st0 hx bo
  have SS := Lib.hid (sees_ss c xt xp)
  dsimp only at KS KF1 KF2
  simp only [Ac.cells] at KS KF1 KF2 ⊢
  by_cases hp0 : 0 ≤ xp
  · have PN := Lib.hid (pr.sees xt xp hp0)
    clear pr
    generalize hz : max (findL lt xt) (findL lp xp) = z at PN
    generalize findL lt xt = g1 at KF1 hz
    generalize findL lp xp = g2 at KF2 hz
    generalize c.sees xt xp = c' at KS KF1 KF2 PN SS
    rw [maxIf] at hz
    have s0 := Lib.hid st; clear st
    go_enter Try.func10, Try.ntmps10
    obtain ⟨c0, c1, c2, c3, c4, c5⟩ := s0.out.si
    go_wp2_with fail
    all_goals (
      refine (KS.out _ s0.out).mono ?_
      rintro e w1 ⟨rfl, s1⟩
      clear s0 c0 c1 c2 c3 c4 c5 KS
      obtain ⟨d0, d1, d2, d3, d4, d5⟩ := s1.out.si
      go_wp2_with fail
      have K2 := Lib.hid (s1.out.drew.with2s hnt xt z)
      have J1 := Lib.hid (KF1.out _ s1.out.drew)
      have J2 := Lib.hid (KF2.out _ s1.out.drew)
      have f1 := s1.out.pl.md.c2
      have f0 := s1.out.pl.md.c1
      clear KF1 KF2 d0 d1 d4 d5)
    all_goals (
      refine wp_region_held_drew (S := (fun w' => w'.cell? ⟨M, 1, none⟩ = some vp ∧ w'.cell? ⟨W.heap.size, 2, none⟩ = some (.int .i64 xp) ∧ w'.cell? ⟨W.heap.size, 3, none⟩ = some (.int .i64 xt))) (by kernel_rfl) ?_ (fun hHeld => ?_)
      · (try dsimp only); (refine ⟨?_, ?_, ?_⟩ <;> (first | with_reducible assumption | (with_reducible refine keep_drew ?_; with_reducible assumption)))
      refine wpAnyH_take (i := 0) (oi := { dst := some 165, op := Op.move (Operand.tmp 1), type := 27, pos := "law.go:102", after := #[], guard := none }) (v := ?_) rfl (by kernel_rfl) (by kernel_rfl) (by kernel_rfl) (fun _ _ _ h => h) (Or.inl ⟨by rfl, ?_⟩) (by assumption) ?_
      rotate_left 1
      · (intro w' hSw; (try dsimp only at hSw); go_simp; try (with_reducible rfl))
      try simp only [Act.put, List.setIfInBounds_toArray, List.set_cons_zero, List.set_cons_succ]
      refine wpAnyH_take (i := 1) (oi := { dst := some 166, op := Op.move (Operand.tmp 1), type := 27, pos := "law.go:102", after := #[], guard := none }) (v := ?_) rfl (by kernel_rfl) (by kernel_rfl) (by kernel_rfl) (fun _ _ _ h => h) (Or.inl ⟨by rfl, ?_⟩) (by assumption) ?_
      rotate_left 1
      · (intro w' hSw; (try dsimp only at hSw); go_simp; try (with_reducible rfl))
      try simp only [Act.put, List.setIfInBounds_toArray, List.set_cons_zero, List.set_cons_succ]
      refine wpAnyH_take (i := 2) (oi := { dst := some 167, op := Op.nilCheck (Operand.tmp 166), type := 0, pos := "law.go:102", after := #[{ on := 1, ground := Ground.data }], guard := none }) (v := ?_) rfl (by kernel_rfl) (by kernel_rfl) (by kernel_rfl) (fun _ _ _ h => h) (Or.inl ⟨by rfl, ?_⟩) (by assumption) ?_
      rotate_left 1
      · (intro w' hSw; (try dsimp only at hSw); go_simp; try (with_reducible rfl))
      try simp only [Act.put, List.setIfInBounds_toArray, List.set_cons_zero, List.set_cons_succ]
      refine wpAnyH_take (i := 3) (oi := { dst := some 168, op := Op.fieldAddr 31 (Operand.tmp 167) 2, type := 0, pos := "law.go:102", after := #[{ on := 2, ground := Ground.data }], guard := none }) (v := ?_) rfl (by kernel_rfl) (by kernel_rfl) (by kernel_rfl) (fun _ _ _ h => h) (Or.inl ⟨by rfl, ?_⟩) (by assumption) ?_
      rotate_left 1
      · (intro w' hSw; (try dsimp only at hSw); go_simp; try (with_reducible rfl))
      try simp only [Act.put, List.setIfInBounds_toArray, List.set_cons_zero, List.set_cons_succ]
      refine wpAnyH_take (i := 5) (oi := { dst := some 170, op := Op.fieldAddr 34 (Operand.tmp 5) 3, type := 0, pos := "law.go:102", after := #[], guard := none }) (v := ?_) rfl (by kernel_rfl) (by kernel_rfl) (by kernel_rfl) (fun _ _ _ h => h) (Or.inl ⟨by rfl, ?_⟩) (by assumption) ?_
      rotate_left 1
      · (intro w' hSw; (try dsimp only at hSw); go_simp; try (with_reducible rfl))
      try simp only [Act.put, List.setIfInBounds_toArray, List.set_cons_zero, List.set_cons_succ]
      refine wpAnyH_take (i := 6) (oi := { dst := some 171, op := Op.load 3 (Operand.tmp 170), type := 3, pos := "law.go:102", after := #[{ on := 5, ground := Ground.data }], guard := none }) (v := ?_) rfl (by kernel_rfl) (by kernel_rfl) (by kernel_rfl) (fun _ _ _ h => h) (Or.inl ⟨by rfl, ?_⟩) (by assumption) ?_
      rotate_left 1
      · (intro w' hSw; (try dsimp only at hSw); go_simp; try (with_reducible rfl))
      try simp only [Act.put, List.setIfInBounds_toArray, List.set_cons_zero, List.set_cons_succ]
      refine wpAnyH_take (i := 7) (oi := { dst := some 172, op := Op.move (Operand.tmp 1), type := 27, pos := "law.go:102", after := #[], guard := none }) (v := ?_) rfl (by kernel_rfl) (by kernel_rfl) (by kernel_rfl) (fun _ _ _ h => h) (Or.inl ⟨by rfl, ?_⟩) (by assumption) ?_
      rotate_left 1
      · (intro w' hSw; (try dsimp only at hSw); go_simp; try (with_reducible rfl))
      try simp only [Act.put, List.setIfInBounds_toArray, List.set_cons_zero, List.set_cons_succ]
      refine wpAnyH_take (i := 8) (oi := { dst := some 173, op := Op.nilCheck (Operand.tmp 172), type := 0, pos := "law.go:102", after := #[{ on := 7, ground := Ground.data }], guard := none }) (v := ?_) rfl (by kernel_rfl) (by kernel_rfl) (by kernel_rfl) (fun _ _ _ h => h) (Or.inl ⟨by rfl, ?_⟩) (by assumption) ?_
      rotate_left 1
      · (intro w' hSw; (try dsimp only at hSw); go_simp; try (with_reducible rfl))
      try simp only [Act.put, List.setIfInBounds_toArray, List.set_cons_zero, List.set_cons_succ]
      refine wpAnyH_take (i := 9) (oi := { dst := some 174, op := Op.fieldAddr 31 (Operand.tmp 173) 2, type := 0, pos := "law.go:102", after := #[{ on := 8, ground := Ground.data }], guard := none }) (v := ?_) rfl (by kernel_rfl) (by kernel_rfl) (by kernel_rfl) (fun _ _ _ h => h) (Or.inl ⟨by rfl, ?_⟩) (by assumption) ?_
      rotate_left 1
      · (intro w' hSw; (try dsimp only at hSw); go_simp; try (with_reducible rfl))
      try simp only [Act.put, List.setIfInBounds_toArray, List.set_cons_zero, List.set_cons_succ]
      refine wpAnyH_take (i := 11) (oi := { dst := some 176, op := Op.fieldAddr 34 (Operand.tmp 5) 3, type := 0, pos := "law.go:102", after := #[], guard := none }) (v := ?_) rfl (by kernel_rfl) (by kernel_rfl) (by kernel_rfl) (fun _ _ _ h => h) (Or.inl ⟨by rfl, ?_⟩) (by assumption) ?_
      rotate_left 1
      · (intro w' hSw; (try dsimp only at hSw); go_simp; try (with_reducible rfl))
      try simp only [Act.put, List.setIfInBounds_toArray, List.set_cons_zero, List.set_cons_succ]
      refine wpAnyH_take (i := 12) (oi := { dst := some 177, op := Op.load 3 (Operand.tmp 176), type := 3, pos := "law.go:102", after := #[{ on := 11, ground := Ground.data }], guard := none }) (v := ?_) rfl (by kernel_rfl) (by kernel_rfl) (by kernel_rfl) (fun _ _ _ h => h) (Or.inl ⟨by rfl, ?_⟩) (by assumption) ?_
      rotate_left 1
      · (intro w' hSw; (try dsimp only at hSw); go_simp; try (with_reducible rfl))
      try simp only [Act.put, List.setIfInBounds_toArray, List.set_cons_zero, List.set_cons_succ]
      refine wpAnyH_take (i := 14) (oi := { dst := some 179, op := Op.move (Operand.tmp 1), type := 27, pos := "law.go:102", after := #[], guard := none }) (v := ?_) rfl (by kernel_rfl) (by kernel_rfl) (by kernel_rfl) (fun _ _ _ h => h) (Or.inl ⟨by rfl, ?_⟩) (by assumption) ?_
      rotate_left 1
      · (intro w' hSw; (try dsimp only at hSw); go_simp; try (with_reducible rfl))
      try simp only [Act.put, List.setIfInBounds_toArray, List.set_cons_zero, List.set_cons_succ]
      refine wpAnyH_take (i := 15) (oi := { dst := some 180, op := Op.nilCheck (Operand.tmp 179), type := 0, pos := "law.go:102", after := #[{ on := 14, ground := Ground.data }], guard := none }) (v := ?_) rfl (by kernel_rfl) (by kernel_rfl) (by kernel_rfl) (fun _ _ _ h => h) (Or.inl ⟨by rfl, ?_⟩) (by assumption) ?_
      rotate_left 1
      · (intro w' hSw; (try dsimp only at hSw); go_simp; try (with_reducible rfl))
      try simp only [Act.put, List.setIfInBounds_toArray, List.set_cons_zero, List.set_cons_succ]
      refine wpAnyH_take (i := 16) (oi := { dst := some 181, op := Op.fieldAddr 31 (Operand.tmp 180) 1, type := 0, pos := "law.go:102", after := #[{ on := 15, ground := Ground.data }], guard := none }) (v := ?_) rfl (by kernel_rfl) (by kernel_rfl) (by kernel_rfl) (fun _ _ _ h => h) (Or.inl ⟨by rfl, ?_⟩) (by assumption) ?_
      rotate_left 1
      · (intro w' hSw; (try dsimp only at hSw); go_simp; try (with_reducible rfl))
      try simp only [Act.put, List.setIfInBounds_toArray, List.set_cons_zero, List.set_cons_succ]
      refine wpAnyH_take (i := 17) (oi := { dst := some 182, op := Op.load 29 (Operand.tmp 181), type := 29, pos := "law.go:102", after := #[{ on := 16, ground := Ground.data }], guard := none }) (v := ?_) rfl (by kernel_rfl) (by kernel_rfl) (by kernel_rfl) (fun _ _ _ h => h) (Or.inl ⟨by rfl, ?_⟩) (by assumption) ?_
      rotate_left 1
      · (intro w' hSw; (try dsimp only at hSw); go_simp; try (with_reducible rfl))
      try simp only [Act.put, List.setIfInBounds_toArray, List.set_cons_zero, List.set_cons_succ]
      refine wpAnyH_take (i := 18) (oi := { dst := some 183, op := Op.fieldAddr 34 (Operand.tmp 5) 2, type := 0, pos := "law.go:102", after := #[], guard := none }) (v := ?_) rfl (by kernel_rfl) (by kernel_rfl) (by kernel_rfl) (fun _ _ _ h => h) (Or.inl ⟨by rfl, ?_⟩) (by assumption) ?_
      rotate_left 1
      · (intro w' hSw; (try dsimp only at hSw); go_simp; try (with_reducible rfl))
      try simp only [Act.put, List.setIfInBounds_toArray, List.set_cons_zero, List.set_cons_succ]
      refine wpAnyH_take (i := 19) (oi := { dst := some 184, op := Op.load 3 (Operand.tmp 183), type := 3, pos := "law.go:102", after := #[{ on := 18, ground := Ground.data }], guard := none }) (v := ?_) rfl (by kernel_rfl) (by kernel_rfl) (by kernel_rfl) (fun _ _ _ h => h) (Or.inl ⟨by rfl, ?_⟩) (by assumption) ?_
      rotate_left 1
      · (intro w' hSw; (try dsimp only at hSw); go_simp; try (with_reducible rfl))
      try simp only [Act.put, List.setIfInBounds_toArray, List.set_cons_zero, List.set_cons_succ]
      refine wpAnyH_ready (rs := [4, 10]) (by kernel_rfl) (by simp) ?_
      refine (AllReadyH.cons rfl (fun K hK => ?_) (AllReadyH.cons rfl (fun K hK => ?_) AllReadyH.nil))
      · skip
        go_simp
        clear hHeld
        refine hK.out _ _ ?_ (fun hHeld => ?_)
        · (try dsimp only); (refine ⟨?_, ?_, ?_⟩ <;> (first | with_reducible assumption | (with_reducible refine keep_drew ?_; with_reducible assumption)))
        clear hK K
        refine wpAnyH_ready (rs := [10]) (by kernel_rfl) (by simp) ?_
        refine (AllReadyH.cons rfl (fun K hK => ?_) AllReadyH.nil)
        · skip
          go_simp
          clear hHeld
          refine hK.out _ _ ?_ (fun hHeld => ?_)
          · (try dsimp only); (refine ⟨?_, ?_, ?_⟩ <;> (first | with_reducible assumption | (with_reducible refine keep_drew ?_; with_reducible assumption)))
          clear hK K
          refine wpAnyH_ready (rs := [13]) (by kernel_rfl) (by simp) ?_
          refine (AllReadyH.cons rfl (fun K hK => ?_) AllReadyH.nil)
          · skip
            go_simp
            refine J1.out.mono ?_
            rintro e w5 ⟨rfl, rfl⟩
            clear hHeld
            refine hK.out _ _ ?_ (fun hHeld => ?_)
            · (try dsimp only); (refine ⟨?_, ?_, ?_⟩ <;> (first | with_reducible assumption | (with_reducible refine keep_drew ?_; with_reducible assumption)))
            clear hK K
            refine wpAnyH_ready (rs := [20]) (by kernel_rfl) (by simp) ?_
            refine (AllReadyH.cons rfl (fun K hK => ?_) AllReadyH.nil)
            · skip
              go_simp
              refine J2.out.mono ?_
              rintro e w5 ⟨rfl, rfl⟩
              clear hHeld
              refine hK.out _ _ ?_ (fun hHeld => ?_)
              · (try dsimp only); (refine ⟨?_, ?_, ?_⟩ <;> (first | with_reducible assumption | (with_reducible refine keep_drew ?_; with_reducible assumption)))
              clear hK K
              refine wpAnyH_ready (rs := [21]) (by kernel_rfl) (by simp) ?_
              refine (AllReadyH.cons rfl (fun K hK => ?_) AllReadyH.nil)
              · skip
                go_simp
                clear hHeld
                refine hK.out _ _ ?_ (fun hHeld => ?_)
                · (try dsimp only); (refine ⟨?_, ?_, ?_⟩ <;> (first | with_reducible assumption | (with_reducible refine keep_drew ?_; with_reducible assumption)))
                clear hK K
                refine wpAnyH_ready (rs := [22]) (by kernel_rfl) (by simp) ?_
                refine (AllReadyH.cons rfl (fun K hK => ?_) AllReadyH.nil)
                · skip
                  go_simp
                  refine K2.out.mono ?_
                  rintro e w6 ⟨a2, n2, q2, rfl, f1, f2, ⟨m1, m2, m3⟩, ⟨k1, k2, k3⟩, s6⟩
                  clear hHeld
                  refine hK.out _ _ ?_ (fun hHeld => ?_)
                  · (try dsimp only); (refine ⟨?_, ?_, ?_⟩ <;> (first | with_reducible assumption | (with_reducible refine keep_drew ?_; with_reducible assumption)))
                  clear hK K
                  refine wpAnyH_take (i := 23) (oi := { dst := some 188, op := Op.nilCheck (Operand.tmp 165), type := 0, pos := "law.go:102", after := #[{ on := 0, ground := Ground.data }, { on := 0, ground := Ground.phase }, { on := 1, ground := Ground.phase }, { on := 2, ground := Ground.phase }, { on := 3, ground := Ground.phase }, { on := 4, ground := Ground.phase }, { on := 5, ground := Ground.phase }, { on := 6, ground := Ground.phase }, { on := 7, ground := Ground.phase }, { on := 8, ground := Ground.phase }, { on := 9, ground := Ground.phase }, { on := 10, ground := Ground.phase }, { on := 11, ground := Ground.phase }, { on := 12, ground := Ground.phase }, { on := 13, ground := Ground.phase }, { on := 14, ground := Ground.phase }, { on := 15, ground := Ground.phase }, { on := 16, ground := Ground.phase }, { on := 17, ground := Ground.phase }, { on := 18, ground := Ground.phase }, { on := 19, ground := Ground.phase }, { on := 20, ground := Ground.phase }, { on := 21, ground := Ground.phase }, { on := 22, ground := Ground.phase }], guard := none }) (v := ?_) rfl (by kernel_rfl) (by kernel_rfl) (by kernel_rfl) (fun _ _ _ h => h) (Or.inl ⟨by rfl, ?_⟩) (by assumption) ?_
                  rotate_left 1
                  · (intro w' hSw; (try dsimp only at hSw); go_simp; try (with_reducible rfl))
                  try simp only [Act.put, List.setIfInBounds_toArray, List.set_cons_zero, List.set_cons_succ]
                  refine wpAnyH_take (i := 24) (oi := { dst := some 189, op := Op.fieldAddr 31 (Operand.tmp 188) 2, type := 0, pos := "law.go:102", after := #[{ on := 23, ground := Ground.data }, { on := 0, ground := Ground.phase }, { on := 1, ground := Ground.phase }, { on := 2, ground := Ground.phase }, { on := 3, ground := Ground.phase }, { on := 4, ground := Ground.phase }, { on := 5, ground := Ground.phase }, { on := 6, ground := Ground.phase }, { on := 7, ground := Ground.phase }, { on := 8, ground := Ground.phase }, { on := 9, ground := Ground.phase }, { on := 10, ground := Ground.phase }, { on := 11, ground := Ground.phase }, { on := 12, ground := Ground.phase }, { on := 13, ground := Ground.phase }, { on := 14, ground := Ground.phase }, { on := 15, ground := Ground.phase }, { on := 16, ground := Ground.phase }, { on := 17, ground := Ground.phase }, { on := 18, ground := Ground.phase }, { on := 19, ground := Ground.phase }, { on := 20, ground := Ground.phase }, { on := 21, ground := Ground.phase }, { on := 22, ground := Ground.phase }], guard := none }) (v := ?_) rfl (by kernel_rfl) (by kernel_rfl) (by kernel_rfl) (fun _ _ _ h => h) (Or.inl ⟨by rfl, ?_⟩) (by assumption) ?_
                  rotate_left 1
                  · (intro w' hSw; (try dsimp only at hSw); go_simp; try (with_reducible rfl))
                  try simp only [Act.put, List.setIfInBounds_toArray, List.set_cons_zero, List.set_cons_succ]
                  refine wpAnyH_ready (rs := [25]) (by kernel_rfl) (by simp) ?_
                  refine (AllReadyH.cons rfl (fun K hK => ?_) AllReadyH.nil)
                  · skip
                    go_simp
                    clear hHeld
                    refine hK.out _ _ ?_ (fun hHeld => ?_)
                    · (try dsimp only); (refine ⟨?_, ?_, ?_⟩ <;> (first | with_reducible assumption | (with_reducible refine keep_drew ?_; with_reducible assumption)))
                    clear hK K
                    refine wpAnyH_done (by kernel_rfl) ?_ _
                    go_wp2
                    go_ret
                    exact ⟨rfl, c', _, _, ⟨_, _, by rw [SS.out.1, SS.out.2]; exact s6.out.pl.mono (by omega)⟩, PN.out⟩
      · skip
        go_simp
        clear hHeld
        refine hK.out _ _ ?_ (fun hHeld => ?_)
        · (try dsimp only); (refine ⟨?_, ?_, ?_⟩ <;> (first | with_reducible assumption | (with_reducible refine keep_drew ?_; with_reducible assumption)))
        clear hK K
        refine wpAnyH_ready (rs := [4, 13]) (by kernel_rfl) (by simp) ?_
        refine (AllReadyH.cons rfl (fun K hK => ?_) (AllReadyH.cons rfl (fun K hK => ?_) AllReadyH.nil))
        · skip
          go_simp
          clear hHeld
          refine hK.out _ _ ?_ (fun hHeld => ?_)
          · (try dsimp only); (refine ⟨?_, ?_, ?_⟩ <;> (first | with_reducible assumption | (with_reducible refine keep_drew ?_; with_reducible assumption)))
          clear hK K
          refine wpAnyH_ready (rs := [13]) (by kernel_rfl) (by simp) ?_
          refine (AllReadyH.cons rfl (fun K hK => ?_) AllReadyH.nil)
          · skip
            go_simp
            refine J1.out.mono ?_
            rintro e w5 ⟨rfl, rfl⟩
            clear hHeld
            refine hK.out _ _ ?_ (fun hHeld => ?_)
            · (try dsimp only); (refine ⟨?_, ?_, ?_⟩ <;> (first | with_reducible assumption | (with_reducible refine keep_drew ?_; with_reducible assumption)))
            clear hK K
            refine wpAnyH_ready (rs := [20]) (by kernel_rfl) (by simp) ?_
            refine (AllReadyH.cons rfl (fun K hK => ?_) AllReadyH.nil)
            · skip
              go_simp
              refine J2.out.mono ?_
              rintro e w5 ⟨rfl, rfl⟩
              clear hHeld
              refine hK.out _ _ ?_ (fun hHeld => ?_)
              · (try dsimp only); (refine ⟨?_, ?_, ?_⟩ <;> (first | with_reducible assumption | (with_reducible refine keep_drew ?_; with_reducible assumption)))
              clear hK K
              refine wpAnyH_ready (rs := [21]) (by kernel_rfl) (by simp) ?_
              refine (AllReadyH.cons rfl (fun K hK => ?_) AllReadyH.nil)
              · skip
                go_simp
                clear hHeld
                refine hK.out _ _ ?_ (fun hHeld => ?_)
                · (try dsimp only); (refine ⟨?_, ?_, ?_⟩ <;> (first | with_reducible assumption | (with_reducible refine keep_drew ?_; with_reducible assumption)))
                clear hK K
                refine wpAnyH_ready (rs := [22]) (by kernel_rfl) (by simp) ?_
                refine (AllReadyH.cons rfl (fun K hK => ?_) AllReadyH.nil)
                · skip
                  go_simp
                  refine K2.out.mono ?_
                  rintro e w6 ⟨a2, n2, q2, rfl, f1, f2, ⟨m1, m2, m3⟩, ⟨k1, k2, k3⟩, s6⟩
                  clear hHeld
                  refine hK.out _ _ ?_ (fun hHeld => ?_)
                  · (try dsimp only); (refine ⟨?_, ?_, ?_⟩ <;> (first | with_reducible assumption | (with_reducible refine keep_drew ?_; with_reducible assumption)))
                  clear hK K
                  refine wpAnyH_take (i := 23) (oi := { dst := some 188, op := Op.nilCheck (Operand.tmp 165), type := 0, pos := "law.go:102", after := #[{ on := 0, ground := Ground.data }, { on := 0, ground := Ground.phase }, { on := 1, ground := Ground.phase }, { on := 2, ground := Ground.phase }, { on := 3, ground := Ground.phase }, { on := 4, ground := Ground.phase }, { on := 5, ground := Ground.phase }, { on := 6, ground := Ground.phase }, { on := 7, ground := Ground.phase }, { on := 8, ground := Ground.phase }, { on := 9, ground := Ground.phase }, { on := 10, ground := Ground.phase }, { on := 11, ground := Ground.phase }, { on := 12, ground := Ground.phase }, { on := 13, ground := Ground.phase }, { on := 14, ground := Ground.phase }, { on := 15, ground := Ground.phase }, { on := 16, ground := Ground.phase }, { on := 17, ground := Ground.phase }, { on := 18, ground := Ground.phase }, { on := 19, ground := Ground.phase }, { on := 20, ground := Ground.phase }, { on := 21, ground := Ground.phase }, { on := 22, ground := Ground.phase }], guard := none }) (v := ?_) rfl (by kernel_rfl) (by kernel_rfl) (by kernel_rfl) (fun _ _ _ h => h) (Or.inl ⟨by rfl, ?_⟩) (by assumption) ?_
                  rotate_left 1
                  · (intro w' hSw; (try dsimp only at hSw); go_simp; try (with_reducible rfl))
                  try simp only [Act.put, List.setIfInBounds_toArray, List.set_cons_zero, List.set_cons_succ]
                  refine wpAnyH_take (i := 24) (oi := { dst := some 189, op := Op.fieldAddr 31 (Operand.tmp 188) 2, type := 0, pos := "law.go:102", after := #[{ on := 23, ground := Ground.data }, { on := 0, ground := Ground.phase }, { on := 1, ground := Ground.phase }, { on := 2, ground := Ground.phase }, { on := 3, ground := Ground.phase }, { on := 4, ground := Ground.phase }, { on := 5, ground := Ground.phase }, { on := 6, ground := Ground.phase }, { on := 7, ground := Ground.phase }, { on := 8, ground := Ground.phase }, { on := 9, ground := Ground.phase }, { on := 10, ground := Ground.phase }, { on := 11, ground := Ground.phase }, { on := 12, ground := Ground.phase }, { on := 13, ground := Ground.phase }, { on := 14, ground := Ground.phase }, { on := 15, ground := Ground.phase }, { on := 16, ground := Ground.phase }, { on := 17, ground := Ground.phase }, { on := 18, ground := Ground.phase }, { on := 19, ground := Ground.phase }, { on := 20, ground := Ground.phase }, { on := 21, ground := Ground.phase }, { on := 22, ground := Ground.phase }], guard := none }) (v := ?_) rfl (by kernel_rfl) (by kernel_rfl) (by kernel_rfl) (fun _ _ _ h => h) (Or.inl ⟨by rfl, ?_⟩) (by assumption) ?_
                  rotate_left 1
                  · (intro w' hSw; (try dsimp only at hSw); go_simp; try (with_reducible rfl))
                  try simp only [Act.put, List.setIfInBounds_toArray, List.set_cons_zero, List.set_cons_succ]
                  refine wpAnyH_ready (rs := [25]) (by kernel_rfl) (by simp) ?_
                  refine (AllReadyH.cons rfl (fun K hK => ?_) AllReadyH.nil)
                  · skip
                    go_simp
                    clear hHeld
                    refine hK.out _ _ ?_ (fun hHeld => ?_)
                    · (try dsimp only); (refine ⟨?_, ?_, ?_⟩ <;> (first | with_reducible assumption | (with_reducible refine keep_drew ?_; with_reducible assumption)))
                    clear hK K
                    refine wpAnyH_done (by kernel_rfl) ?_ _
                    go_wp2
                    go_ret
                    exact ⟨rfl, c', _, _, ⟨_, _, by rw [SS.out.1, SS.out.2]; exact s6.out.pl.mono (by omega)⟩, PN.out⟩
        · skip
          go_simp
          refine J1.out.mono ?_
          rintro e w5 ⟨rfl, rfl⟩
          clear hHeld
          refine hK.out _ _ ?_ (fun hHeld => ?_)
          · (try dsimp only); (refine ⟨?_, ?_, ?_⟩ <;> (first | with_reducible assumption | (with_reducible refine keep_drew ?_; with_reducible assumption)))
          clear hK K
          refine wpAnyH_ready (rs := [4, 20]) (by kernel_rfl) (by simp) ?_
          refine (AllReadyH.cons rfl (fun K hK => ?_) (AllReadyH.cons rfl (fun K hK => ?_) AllReadyH.nil))
          · skip
            go_simp
            clear hHeld
            refine hK.out _ _ ?_ (fun hHeld => ?_)
            · (try dsimp only); (refine ⟨?_, ?_, ?_⟩ <;> (first | with_reducible assumption | (with_reducible refine keep_drew ?_; with_reducible assumption)))
            clear hK K
            refine wpAnyH_ready (rs := [20]) (by kernel_rfl) (by simp) ?_
            refine (AllReadyH.cons rfl (fun K hK => ?_) AllReadyH.nil)
            · skip
              go_simp
              refine J2.out.mono ?_
              rintro e w5 ⟨rfl, rfl⟩
              clear hHeld
              refine hK.out _ _ ?_ (fun hHeld => ?_)
              · (try dsimp only); (refine ⟨?_, ?_, ?_⟩ <;> (first | with_reducible assumption | (with_reducible refine keep_drew ?_; with_reducible assumption)))
              clear hK K
              refine wpAnyH_ready (rs := [21]) (by kernel_rfl) (by simp) ?_
              refine (AllReadyH.cons rfl (fun K hK => ?_) AllReadyH.nil)
              · skip
                go_simp
                clear hHeld
                refine hK.out _ _ ?_ (fun hHeld => ?_)
                · (try dsimp only); (refine ⟨?_, ?_, ?_⟩ <;> (first | with_reducible assumption | (with_reducible refine keep_drew ?_; with_reducible assumption)))
                clear hK K
                refine wpAnyH_ready (rs := [22]) (by kernel_rfl) (by simp) ?_
                refine (AllReadyH.cons rfl (fun K hK => ?_) AllReadyH.nil)
                · skip
                  go_simp
                  refine K2.out.mono ?_
                  rintro e w6 ⟨a2, n2, q2, rfl, f1, f2, ⟨m1, m2, m3⟩, ⟨k1, k2, k3⟩, s6⟩
                  clear hHeld
                  refine hK.out _ _ ?_ (fun hHeld => ?_)
                  · (try dsimp only); (refine ⟨?_, ?_, ?_⟩ <;> (first | with_reducible assumption | (with_reducible refine keep_drew ?_; with_reducible assumption)))
                  clear hK K
                  refine wpAnyH_take (i := 23) (oi := { dst := some 188, op := Op.nilCheck (Operand.tmp 165), type := 0, pos := "law.go:102", after := #[{ on := 0, ground := Ground.data }, { on := 0, ground := Ground.phase }, { on := 1, ground := Ground.phase }, { on := 2, ground := Ground.phase }, { on := 3, ground := Ground.phase }, { on := 4, ground := Ground.phase }, { on := 5, ground := Ground.phase }, { on := 6, ground := Ground.phase }, { on := 7, ground := Ground.phase }, { on := 8, ground := Ground.phase }, { on := 9, ground := Ground.phase }, { on := 10, ground := Ground.phase }, { on := 11, ground := Ground.phase }, { on := 12, ground := Ground.phase }, { on := 13, ground := Ground.phase }, { on := 14, ground := Ground.phase }, { on := 15, ground := Ground.phase }, { on := 16, ground := Ground.phase }, { on := 17, ground := Ground.phase }, { on := 18, ground := Ground.phase }, { on := 19, ground := Ground.phase }, { on := 20, ground := Ground.phase }, { on := 21, ground := Ground.phase }, { on := 22, ground := Ground.phase }], guard := none }) (v := ?_) rfl (by kernel_rfl) (by kernel_rfl) (by kernel_rfl) (fun _ _ _ h => h) (Or.inl ⟨by rfl, ?_⟩) (by assumption) ?_
                  rotate_left 1
                  · (intro w' hSw; (try dsimp only at hSw); go_simp; try (with_reducible rfl))
                  try simp only [Act.put, List.setIfInBounds_toArray, List.set_cons_zero, List.set_cons_succ]
                  refine wpAnyH_take (i := 24) (oi := { dst := some 189, op := Op.fieldAddr 31 (Operand.tmp 188) 2, type := 0, pos := "law.go:102", after := #[{ on := 23, ground := Ground.data }, { on := 0, ground := Ground.phase }, { on := 1, ground := Ground.phase }, { on := 2, ground := Ground.phase }, { on := 3, ground := Ground.phase }, { on := 4, ground := Ground.phase }, { on := 5, ground := Ground.phase }, { on := 6, ground := Ground.phase }, { on := 7, ground := Ground.phase }, { on := 8, ground := Ground.phase }, { on := 9, ground := Ground.phase }, { on := 10, ground := Ground.phase }, { on := 11, ground := Ground.phase }, { on := 12, ground := Ground.phase }, { on := 13, ground := Ground.phase }, { on := 14, ground := Ground.phase }, { on := 15, ground := Ground.phase }, { on := 16, ground := Ground.phase }, { on := 17, ground := Ground.phase }, { on := 18, ground := Ground.phase }, { on := 19, ground := Ground.phase }, { on := 20, ground := Ground.phase }, { on := 21, ground := Ground.phase }, { on := 22, ground := Ground.phase }], guard := none }) (v := ?_) rfl (by kernel_rfl) (by kernel_rfl) (by kernel_rfl) (fun _ _ _ h => h) (Or.inl ⟨by rfl, ?_⟩) (by assumption) ?_
                  rotate_left 1
                  · (intro w' hSw; (try dsimp only at hSw); go_simp; try (with_reducible rfl))
                  try simp only [Act.put, List.setIfInBounds_toArray, List.set_cons_zero, List.set_cons_succ]
                  refine wpAnyH_ready (rs := [25]) (by kernel_rfl) (by simp) ?_
                  refine (AllReadyH.cons rfl (fun K hK => ?_) AllReadyH.nil)
                  · skip
                    go_simp
                    clear hHeld
                    refine hK.out _ _ ?_ (fun hHeld => ?_)
                    · (try dsimp only); (refine ⟨?_, ?_, ?_⟩ <;> (first | with_reducible assumption | (with_reducible refine keep_drew ?_; with_reducible assumption)))
                    clear hK K
                    refine wpAnyH_done (by kernel_rfl) ?_ _
                    go_wp2
                    go_ret
                    exact ⟨rfl, c', _, _, ⟨_, _, by rw [SS.out.1, SS.out.2]; exact s6.out.pl.mono (by omega)⟩, PN.out⟩
          · skip
            go_simp
            refine J2.out.mono ?_
            rintro e w5 ⟨rfl, rfl⟩
            clear hHeld
            refine hK.out _ _ ?_ (fun hHeld => ?_)
            · (try dsimp only); (refine ⟨?_, ?_, ?_⟩ <;> (first | with_reducible assumption | (with_reducible refine keep_drew ?_; with_reducible assumption)))
            clear hK K
            refine wpAnyH_ready (rs := [4, 21]) (by kernel_rfl) (by simp) ?_
            refine (AllReadyH.cons rfl (fun K hK => ?_) (AllReadyH.cons rfl (fun K hK => ?_) AllReadyH.nil))
            · skip
              go_simp
              clear hHeld
              refine hK.out _ _ ?_ (fun hHeld => ?_)
              · (try dsimp only); (refine ⟨?_, ?_, ?_⟩ <;> (first | with_reducible assumption | (with_reducible refine keep_drew ?_; with_reducible assumption)))
              clear hK K
              refine wpAnyH_ready (rs := [21]) (by kernel_rfl) (by simp) ?_
              refine (AllReadyH.cons rfl (fun K hK => ?_) AllReadyH.nil)
              · skip
                go_simp
                clear hHeld
                refine hK.out _ _ ?_ (fun hHeld => ?_)
                · (try dsimp only); (refine ⟨?_, ?_, ?_⟩ <;> (first | with_reducible assumption | (with_reducible refine keep_drew ?_; with_reducible assumption)))
                clear hK K
                refine wpAnyH_ready (rs := [22]) (by kernel_rfl) (by simp) ?_
                refine (AllReadyH.cons rfl (fun K hK => ?_) AllReadyH.nil)
                · skip
                  go_simp
                  refine K2.out.mono ?_
                  rintro e w6 ⟨a2, n2, q2, rfl, f1, f2, ⟨m1, m2, m3⟩, ⟨k1, k2, k3⟩, s6⟩
                  clear hHeld
                  refine hK.out _ _ ?_ (fun hHeld => ?_)
                  · (try dsimp only); (refine ⟨?_, ?_, ?_⟩ <;> (first | with_reducible assumption | (with_reducible refine keep_drew ?_; with_reducible assumption)))
                  clear hK K
                  refine wpAnyH_take (i := 23) (oi := { dst := some 188, op := Op.nilCheck (Operand.tmp 165), type := 0, pos := "law.go:102", after := #[{ on := 0, ground := Ground.data }, { on := 0, ground := Ground.phase }, { on := 1, ground := Ground.phase }, { on := 2, ground := Ground.phase }, { on := 3, ground := Ground.phase }, { on := 4, ground := Ground.phase }, { on := 5, ground := Ground.phase }, { on := 6, ground := Ground.phase }, { on := 7, ground := Ground.phase }, { on := 8, ground := Ground.phase }, { on := 9, ground := Ground.phase }, { on := 10, ground := Ground.phase }, { on := 11, ground := Ground.phase }, { on := 12, ground := Ground.phase }, { on := 13, ground := Ground.phase }, { on := 14, ground := Ground.phase }, { on := 15, ground := Ground.phase }, { on := 16, ground := Ground.phase }, { on := 17, ground := Ground.phase }, { on := 18, ground := Ground.phase }, { on := 19, ground := Ground.phase }, { on := 20, ground := Ground.phase }, { on := 21, ground := Ground.phase }, { on := 22, ground := Ground.phase }], guard := none }) (v := ?_) rfl (by kernel_rfl) (by kernel_rfl) (by kernel_rfl) (fun _ _ _ h => h) (Or.inl ⟨by rfl, ?_⟩) (by assumption) ?_
                  rotate_left 1
                  · (intro w' hSw; (try dsimp only at hSw); go_simp; try (with_reducible rfl))
                  try simp only [Act.put, List.setIfInBounds_toArray, List.set_cons_zero, List.set_cons_succ]
                  refine wpAnyH_take (i := 24) (oi := { dst := some 189, op := Op.fieldAddr 31 (Operand.tmp 188) 2, type := 0, pos := "law.go:102", after := #[{ on := 23, ground := Ground.data }, { on := 0, ground := Ground.phase }, { on := 1, ground := Ground.phase }, { on := 2, ground := Ground.phase }, { on := 3, ground := Ground.phase }, { on := 4, ground := Ground.phase }, { on := 5, ground := Ground.phase }, { on := 6, ground := Ground.phase }, { on := 7, ground := Ground.phase }, { on := 8, ground := Ground.phase }, { on := 9, ground := Ground.phase }, { on := 10, ground := Ground.phase }, { on := 11, ground := Ground.phase }, { on := 12, ground := Ground.phase }, { on := 13, ground := Ground.phase }, { on := 14, ground := Ground.phase }, { on := 15, ground := Ground.phase }, { on := 16, ground := Ground.phase }, { on := 17, ground := Ground.phase }, { on := 18, ground := Ground.phase }, { on := 19, ground := Ground.phase }, { on := 20, ground := Ground.phase }, { on := 21, ground := Ground.phase }, { on := 22, ground := Ground.phase }], guard := none }) (v := ?_) rfl (by kernel_rfl) (by kernel_rfl) (by kernel_rfl) (fun _ _ _ h => h) (Or.inl ⟨by rfl, ?_⟩) (by assumption) ?_
                  rotate_left 1
                  · (intro w' hSw; (try dsimp only at hSw); go_simp; try (with_reducible rfl))
                  try simp only [Act.put, List.setIfInBounds_toArray, List.set_cons_zero, List.set_cons_succ]
                  refine wpAnyH_ready (rs := [25]) (by kernel_rfl) (by simp) ?_
                  refine (AllReadyH.cons rfl (fun K hK => ?_) AllReadyH.nil)
                  · skip
                    go_simp
                    clear hHeld
                    refine hK.out _ _ ?_ (fun hHeld => ?_)
                    · (try dsimp only); (refine ⟨?_, ?_, ?_⟩ <;> (first | with_reducible assumption | (with_reducible refine keep_drew ?_; with_reducible assumption)))
                    clear hK K
                    refine wpAnyH_done (by kernel_rfl) ?_ _
                    go_wp2
                    go_ret
                    exact ⟨rfl, c', _, _, ⟨_, _, by rw [SS.out.1, SS.out.2]; exact s6.out.pl.mono (by omega)⟩, PN.out⟩
            · skip
              go_simp
              clear hHeld
              refine hK.out _ _ ?_ (fun hHeld => ?_)
              · (try dsimp only); (refine ⟨?_, ?_, ?_⟩ <;> (first | with_reducible assumption | (with_reducible refine keep_drew ?_; with_reducible assumption)))
              clear hK K
              refine wpAnyH_ready (rs := [4]) (by kernel_rfl) (by simp) ?_
              refine (AllReadyH.cons rfl (fun K hK => ?_) AllReadyH.nil)
              · skip
                go_simp
                clear hHeld
                refine hK.out _ _ ?_ (fun hHeld => ?_)
                · (try dsimp only); (refine ⟨?_, ?_, ?_⟩ <;> (first | with_reducible assumption | (with_reducible refine keep_drew ?_; with_reducible assumption)))
                clear hK K
                refine wpAnyH_ready (rs := [22]) (by kernel_rfl) (by simp) ?_
                refine (AllReadyH.cons rfl (fun K hK => ?_) AllReadyH.nil)
                · skip
                  go_simp
                  refine K2.out.mono ?_
                  rintro e w6 ⟨a2, n2, q2, rfl, f1, f2, ⟨m1, m2, m3⟩, ⟨k1, k2, k3⟩, s6⟩
                  clear hHeld
                  refine hK.out _ _ ?_ (fun hHeld => ?_)
                  · (try dsimp only); (refine ⟨?_, ?_, ?_⟩ <;> (first | with_reducible assumption | (with_reducible refine keep_drew ?_; with_reducible assumption)))
                  clear hK K
                  refine wpAnyH_take (i := 23) (oi := { dst := some 188, op := Op.nilCheck (Operand.tmp 165), type := 0, pos := "law.go:102", after := #[{ on := 0, ground := Ground.data }, { on := 0, ground := Ground.phase }, { on := 1, ground := Ground.phase }, { on := 2, ground := Ground.phase }, { on := 3, ground := Ground.phase }, { on := 4, ground := Ground.phase }, { on := 5, ground := Ground.phase }, { on := 6, ground := Ground.phase }, { on := 7, ground := Ground.phase }, { on := 8, ground := Ground.phase }, { on := 9, ground := Ground.phase }, { on := 10, ground := Ground.phase }, { on := 11, ground := Ground.phase }, { on := 12, ground := Ground.phase }, { on := 13, ground := Ground.phase }, { on := 14, ground := Ground.phase }, { on := 15, ground := Ground.phase }, { on := 16, ground := Ground.phase }, { on := 17, ground := Ground.phase }, { on := 18, ground := Ground.phase }, { on := 19, ground := Ground.phase }, { on := 20, ground := Ground.phase }, { on := 21, ground := Ground.phase }, { on := 22, ground := Ground.phase }], guard := none }) (v := ?_) rfl (by kernel_rfl) (by kernel_rfl) (by kernel_rfl) (fun _ _ _ h => h) (Or.inl ⟨by rfl, ?_⟩) (by assumption) ?_
                  rotate_left 1
                  · (intro w' hSw; (try dsimp only at hSw); go_simp; try (with_reducible rfl))
                  try simp only [Act.put, List.setIfInBounds_toArray, List.set_cons_zero, List.set_cons_succ]
                  refine wpAnyH_take (i := 24) (oi := { dst := some 189, op := Op.fieldAddr 31 (Operand.tmp 188) 2, type := 0, pos := "law.go:102", after := #[{ on := 23, ground := Ground.data }, { on := 0, ground := Ground.phase }, { on := 1, ground := Ground.phase }, { on := 2, ground := Ground.phase }, { on := 3, ground := Ground.phase }, { on := 4, ground := Ground.phase }, { on := 5, ground := Ground.phase }, { on := 6, ground := Ground.phase }, { on := 7, ground := Ground.phase }, { on := 8, ground := Ground.phase }, { on := 9, ground := Ground.phase }, { on := 10, ground := Ground.phase }, { on := 11, ground := Ground.phase }, { on := 12, ground := Ground.phase }, { on := 13, ground := Ground.phase }, { on := 14, ground := Ground.phase }, { on := 15, ground := Ground.phase }, { on := 16, ground := Ground.phase }, { on := 17, ground := Ground.phase }, { on := 18, ground := Ground.phase }, { on := 19, ground := Ground.phase }, { on := 20, ground := Ground.phase }, { on := 21, ground := Ground.phase }, { on := 22, ground := Ground.phase }], guard := none }) (v := ?_) rfl (by kernel_rfl) (by kernel_rfl) (by kernel_rfl) (fun _ _ _ h => h) (Or.inl ⟨by rfl, ?_⟩) (by assumption) ?_
                  rotate_left 1
                  · (intro w' hSw; (try dsimp only at hSw); go_simp; try (with_reducible rfl))
                  try simp only [Act.put, List.setIfInBounds_toArray, List.set_cons_zero, List.set_cons_succ]
                  refine wpAnyH_ready (rs := [25]) (by kernel_rfl) (by simp) ?_
                  refine (AllReadyH.cons rfl (fun K hK => ?_) AllReadyH.nil)
                  · skip
                    go_simp
                    clear hHeld
                    refine hK.out _ _ ?_ (fun hHeld => ?_)
                    · (try dsimp only); (refine ⟨?_, ?_, ?_⟩ <;> (first | with_reducible assumption | (with_reducible refine keep_drew ?_; with_reducible assumption)))
                    clear hK K
                    refine wpAnyH_done (by kernel_rfl) ?_ _
                    go_wp2
                    go_ret
                    exact ⟨rfl, c', _, _, ⟨_, _, by rw [SS.out.1, SS.out.2]; exact s6.out.pl.mono (by omega)⟩, PN.out⟩)
  · have PN := Lib.hid (pr.sees_no xt xp hp0)
    clear pr KF1 KF2
    generalize c.sees xt xp = c' at KS PN SS
    have hp1 : xp < 0 := by omega
    have s0 := Lib.hid st; clear st
    go_enter Try.func10, Try.ntmps10
    obtain ⟨c0, c1, c2, c3, c4, c5⟩ := s0.out.si
    go_wp2_with fail
    all_goals (
      refine (KS.out _ s0.out).mono ?_
      rintro e w1 ⟨rfl, s1⟩
      clear s0 c0 c1 c2 c3 c4 c5 KS
      obtain ⟨d0, d1, d2, d3, d4, d5⟩ := s1.out.si
      go_wp2
      go_ret
      exact ⟨rfl, c', _, _, ⟨_, _, by rw [SS.out.1, SS.out.2]; exact s1.out.pl.mono (by omega)⟩, PN.out⟩)
end Go.Proofs.Ytcdkloohdafbpaa
