/-
  THE WALK OF quadrigalaw09.ClockPlays: it returns true, and writes nothing that was there.
-/
import Derived.Test.YtcdkloohdafbpaaCkTicka
import Derived.Test.YtcdkloohdafbpaaCkTickb
import Derived.Test.YtcdkloohdafbpaaCkTickc
import Derived.Test.YtcdkloohdafbpaaCkPeek
import Derived.Test.YtcdkloohdafbpaaCkSees
import Derived.Test.YtcdkloohdafbpaaCkTurn
import Derived.Test.YtcdkloohdafbpaaCkTurnNo
import Derived.Test.YtcdkloohdafbpaaCkDrop
import Derived.Test.YtcdkloohdafbpaaCkRaiseNo
import Derived.Test.YtcdkloohdafbpaaCkRaiseYes
import Derived.StillTailTactics
namespace Go.Proofs.Ytcdkloohdafbpaa
open Go.RowKit
/-- Where the rest of a region only reads: in the text's order. -/
theorem wpAny_rest {P : Program} {l : List Oper} {fuel : Nat} {listed : Array Bool} {a : Act} {w : World} {Q : Exit → Act → World → Prop} (k : Nat) (hf : fuel = (l.drop k).length)
    (hB : (Region.noSelect l.toArray && Region.lexFrom .any l.toArray (l.drop k).length k listed) = true) (h : wpStill P l.toArray w (fun a' => Q .normal a' w) (l.drop k) a) : wpAny P .any l.toArray Q fuel listed a w := by
  rw [Bool.and_eq_true] at hB
  subst hf
  exact wpAny_of_still (Q := fun a' => Q .normal a' w) (fun _ h => h) _ _ _ (wpAnyS_lex hB.1 _ k listed a (fun j => by simp) hB.2 h)
/-- does, of any act. -/
theorem does_any {w W : World} {B C S P T M R n kk k : Nat} {c : Clk} {lp lt : List (Int × Int)} (h : Plays w W B C S P T M R n kk c lp lt) (pr : PlaysP k n c lp lt) (hk : k ≤ 60) (hkk : kk ≤ 1000) (x : Ac) (hx : AcOk w x) (h10 : x.ml.length ≤ 10) :
    Calls Try.prog 10 #[.pointer (some ⟨C, 0, none⟩), .pointer (some ⟨M, 0, none⟩), .agg x.cells] W fun e w' => e = .returned (.bool true) ∧ ∃ c' lp' lt', Plays w w' B C S P T M R n (kk + 11) c' lp' lt' ∧ PlaysP (k + 1) n c' lp' lt' := by
  have hxn : (0 ≤ x.n ∧ x.n ≤ 4611686018427387903) ∨ (0 ≤ x.n ∧ 4611686018427387903 < x.n) ∨ x.n < 0 := by omega
  by_cases e0 : x.k = 0
  · rcases hxn with ⟨a, b⟩ | ⟨a, b⟩ | a
    · exact does_tick_a h pr hk hkk x hx e0 a b
    · exact does_tick_b h pr hk hkk x hx e0 a b
    · exact does_tick_c h pr hk hkk x hx e0 a
  by_cases e1 : x.k = 1
  · exact does_peek h pr hk x hx e1
  by_cases e2 : x.k = 2
  · exact does_sees h pr hk hkk x hx e2
  by_cases e3 : x.k = 3
  · cases hq : hasL n x.ml with
    | false => exact does_raise_no_h h pr x hx e3 hq
    | true =>
      rcases hxn with ⟨a, b⟩ | ⟨a, b⟩ | a
      · exact does_raise_yes h pr x hx e3 hq a b
      · exact does_raise_no_b h pr x hx e3 hq a b
      · exact does_raise_no_c h pr x hx e3 hq a
  by_cases e4 : x.k = 4
  · by_cases hp : x.p < 0
    · exact does_turn_no_p h pr hkk x hx e4 hp
    · rcases hxn with ⟨a, b⟩ | ⟨a, b⟩ | a
      · exact does_turn_yes h pr hk hkk x hx e4 a b (by omega)
      · exact does_turn_no_b h pr hkk x hx e4 a b
      · exact does_turn_no_c h pr hkk x hx e4 a
  exact does_drop h pr hk hkk x hx ⟨e0, e1, e2, e3, e4⟩ h10
theorem begins {w w2 : World} {C S P T n : Nat} {cs : Array Value} (hc : CAt w2 C S P T n 0 (Clk.new n)) (hb : Below w.heap.size w w2) (q1 : w.heap.size ≤ C) (q2 : w.heap.size ≤ S) (q3 : w.heap.size ≤ P) (q4 : w.heap.size ≤ T) (n1 : 1 ≤ n) (n8 : n ≤ 8)
    (HC : ∀ i, i < n → cs[i]? = some (.int .i64 0)) :
    Plays w ((w2.alloc (.cells cs 3)).alloc (.cells #[.slice (some ⟨w2.heap.size, 0, none⟩) n n, .slice none 0 0, .slice none 0 0, .int .i64 0] 31)) (w2.heap.size + 2) C S P T (w2.heap.size + 1) w2.heap.size n 0 (Clk.new n) [] [] := by
  have hal : Below w2.heap.size w2 ((w2.alloc (.cells cs 3)).alloc (.cells #[.slice (some ⟨w2.heap.size, 0, none⟩) n n, .slice none 0 0, .slice none 0 0, .int .i64 0] 31)) :=
    ((Below.refl _ _).alloc (Nat.le_refl _) _).alloc (by rw [World.size_alloc]; omega) _
  obtain ⟨l1, l2, l3, l4⟩ := ClockAt.lts hc
  have hs := hb.size
  refine ⟨.slice none 0 0, .slice none 0 0, hc.below hal, ⟨?_, ?_, ?_, ?_, ?_, ?_, ?_, ?_, ?_, ⟨n1, n8⟩⟩, hb.trans (hal.mono hs), RowT.none _ _, RowT.none _ _, by simp only [World.size_alloc]; omega, ⟨⟨q1, q2, q3, q4, by omega, hs⟩, ⟨by omega, by omega, by omega, by omega, by omega, by omega⟩, ⟨by omega, by omega, by omega, by omega⟩, ⟨by omega, by omega, by omega, by omega⟩⟩⟩
  · exact new_cell (by simp only [World.size_alloc]) rfl
  · exact new_cell (by simp only [World.size_alloc]) rfl
  · exact new_cell (by simp only [World.size_alloc]) rfl
  · exact new_cell (by simp only [World.size_alloc]) rfl
  · intro i
    exact World.frozen?_alloc_at _ _ _ _ (by simp only [World.size_alloc])
  · intro i hi
    rw [show (Clk.new n).ss.getD i 0 = 0 by simp [Clk.new, List.getD_eq_getElem?_getD, hi]]
    exact keep_alloc (new_cell rfl (HC i hi))
  · intro i
    rw [World.frozen?_alloc_past _ _ _ (by simp only [World.size_alloc]; omega)]
    exact World.frozen?_alloc_at _ _ _ _ rfl
  · exact List.length_replicate
  · omega
theorem begins_p (n : Nat) : PlaysP 0 n (Clk.new n) [] [] := ⟨Nat.le_refl _, Nat.le_refl _, fun _ => rfl, fun _ => rfl, fun _ _ => rfl⟩
set_option maxRecDepth 100000 in
set_option maxHeartbeats 4000000 in
theorem clockPlays_walk (nz : Int) (a : Option Addr) (L : List Ac) (cap : Nat) (page txn : Int) (w : World) (hn : L.length ≤ maxLen) (ha : ActsAt w a L) (hp : (Lit.int .i64 page).wf = true) (ht : (Lit.int .i64 txn).wf = true) :
    Calls Try.prog 3 #[.int .i64 nz, .slice a L.length cap, .int .i64 page, .int .i64 txn] w fun e w' => e = .returned (.bool true) ∧ Below w.heap.size w w' := by
  have KG := Lib.hid (great_any a L cap w hn ha)
  have HA := Lib.hid ha; clear ha
  have KA := Lib.hid (fun W (hW : Below w.heap.size w W) => (awake_any W).mono fun e w' h => (⟨h.1, hW.trans (h.2.mono hW.size)⟩ : e = .returned (.bool true) ∧ Below w.heap.size w w'))
  have HB0 : Hid (Below w.heap.size w w) := Below.refl _ _
  unfold maxLen at hn
  cases hg : greatB L with
  | true =>
    rw [hg] at KG
    go_enter Try.func3, Try.ntmps3
    go_wp2_with fail
    refine KG.out.mono ?_
    rintro e w1 ⟨rfl, rfl⟩
    go_wp2_with fail
    refine (KA.out _ HB0.out).mono ?_
    rintro e w1 ⟨rfl, hb⟩
    go_wp2
    go_ret
    exact ⟨rfl, hb⟩
  | false =>
    obtain ⟨h60, h10⟩ := greatB_no hg
    have H10 := Lib.hid h10; clear h10
    rw [hg] at KG
    clear hg
    by_cases hr : 1 ≤ nz ∧ nz ≤ 8
    · obtain ⟨hr1, hr8⟩ := hr
      obtain ⟨n, rfl⟩ := Int.eq_ofNat_of_zero_le (show 0 ≤ nz by omega)
      have n1 : 1 ≤ n := by omega
      have n8 : n ≤ 8 := by omega
      have hmk := make_ints n n8
      have HC : Hid (∀ i, i < n → ((List.replicate n (Value.int .i64 0)).toArray)[i]? = some (.int .i64 0)) := fun i hi => by simp [hi]
      generalize (List.replicate n (Value.int .i64 0)).toArray = cs at hmk HC
      go_enter Try.func3, Try.ntmps3
      go_wp2_with fail
      refine KG.out.mono ?_
      rintro e w1 ⟨rfl, rfl⟩
      go_wp2_with fail
      refine (KA.out _ HB0.out).mono ?_
      rintro e w1 ⟨rfl, hb⟩
      have HB1 := Lib.hid hb; clear hb HB0 KG KA
      go_wp2_with fail
      refine (new_all n w1 n1 n8).mono ?_
      rintro e w2 ⟨C, S, P, T, rfl, hc, hb, q1, q2, q3, q4⟩
      have hsz := HB1.out.size
      have BG := Lib.hid (begins hc (HB1.out.trans (hb.mono hsz)) (by omega) (by omega) (by omega) (by omega) n1 n8 HC.out)
      have BP := Lib.hid (begins_p n)
      clear HB1 hc hb q1 q2 q3 q4 HC hsz
      go_wp2
      generalize (w2.alloc (.cells cs 3)).alloc (.cells #[.slice (some ⟨w2.heap.size, 0, none⟩) n n, .slice none 0 0, .slice none 0 0, .int .i64 0] 31) = w3 at *
      generalize w2.heap.size + 2 = B at *
      generalize w2.heap.size + 1 = M at *
      generalize w2.heap.size = R at *
      clear hmk
      go_loopw [11] (fun i wr => ∃ (k : Nat) (c : Clk) (lp lt : List (Int × Int)), k ≤ L.length ∧ i = .int .i64 k ∧ Hid (Plays w wr B C S P T M R n (11 * k) c lp lt) ∧ Hid (PlaysP k n c lp lt)) (fun i _ => L.length - (intOf i).toNat)
      case atStart => exact ⟨0, Clk.new n, [], [], Nat.zero_le _, rfl, BG, BP⟩
      case round =>
        obtain ⟨k, c, lp, lt, hk, rfl, st, pr⟩ := hrel
        rename World => wa
        clear BG BP
        by_cases hlt : k < L.length
        · have hk60 : k ≤ 60 := by omega
          obtain ⟨b, off, e, _, hokw⟩ := HA.out.at hlt
          have bwa : Below w.heap.size w wa := by obtain ⟨vp, vt, s⟩ := st.out; exact s.bw
          have bwd : Below w.heap.size w wa.drew := bwa.drew
          subst e
          have HAC : Hid (∀ W1, Below w.heap.size w W1 → AcCells W1 b (off + k * 6) (L.getD k noAc)) := fun W1 hW => by
            obtain ⟨b', off', e', h', _⟩ := (HA.out.below hW).at hlt
            injection e' with e'; injection e' with e1 e2; subst e1; subst e2; exact h'
          have std : Plays w wa.drew B C S P T M R n (11 * k) c lp lt := by obtain ⟨vp, vt, s⟩ := st.out; exact ⟨vp, vt, s.below ((Below.refl _ _).drew)⟩
          have hcells := HAC.out _ bwd
          have KD := Lib.hid (does_any std pr.out hk60 (by omega) (L.getD k noAc) hokw (H10.out _ (mem_getD hlt)))
          have hlt0 : (0 : Int) ≤ (k : Int) := by omega
          have hlt1 : (k : Int) < (L.length : Int) := by omega
          simp only [Ac.cells] at KD
          generalize L.getD k noAc = x at *
          obtain ⟨c0, c1, c2, c3, c4, c5⟩ := hcells
          have wp := hokw.p
          have wt := hokw.t
          clear hokw st pr bwa bwd std
          obtain ⟨xk, xs, xp, xt, xn, ma, ml, mc⟩ := x
          dsimp only at KD c0 c1 c2 c3 c4 c5 wp wt HAC
          go_wp2_with fail
          simp only [List.append_eq, List.cons_append, List.nil_append]
          refine wp_region_any (by kernel_rfl) ?_
          change wpAny _ _ _ _ _ _ _ (World.drew _)
          refine wpAny_take (i := 0) (v := ?_) rfl (by kernel_rfl) (by kernel_rfl) (by kernel_rfl) (fun _ _ _ h => h) (Or.inl ⟨by rfl, ?_⟩) ?_
          rotate_left 1
          · (intro w9; go_simp; try (with_reducible rfl))
          try simp only [Act.put, List.setIfInBounds_toArray]
          refine wpAny_take (i := 1) (v := ?_) rfl (by kernel_rfl) (by kernel_rfl) (by kernel_rfl) (fun _ _ _ h => h) (Or.inl ⟨by rfl, ?_⟩) ?_
          rotate_left 1
          · (intro w9; go_simp; try (with_reducible rfl))
          try simp only [Act.put]
          refine wpAny_take (i := 2) (v := ?_) rfl (by kernel_rfl) (by kernel_rfl) (by kernel_rfl) (fun _ _ _ h => h) (Or.inl ⟨by rfl, ?_⟩) ?_
          rotate_left 1
          · (intro w9; go_simp; try (with_reducible rfl))
          try simp only [Act.put]
          refine wpAny_take (i := 3) (v := ?_) rfl (by kernel_rfl) (by kernel_rfl) (by kernel_rfl) (fun _ _ _ h => h) (Or.inl ⟨by rfl, ?_⟩) ?_
          rotate_left 1
          · (intro w9; go_simp; try (with_reducible rfl))
          try simp only [Act.put]
          refine wpAny_take (i := 4) (v := ?_) rfl (by kernel_rfl) (by kernel_rfl) (by kernel_rfl) (fun _ _ _ h => h) (Or.inl ⟨by rfl, ?_⟩) ?_
          rotate_left 1
          · (intro w9; go_simp; try (with_reducible rfl))
          try simp only [Act.put]
          refine wpAny_ready (rs := [5]) (by kernel_rfl) (by simp) ?_
          refine AllReady.cons rfl (fun K hK => ?_) AllReady.nil
          go_simp
          refine hK _ _ ?_
          clear hK K
          refine wpAny_ready (rs := [6]) (by kernel_rfl) (by simp) ?_
          refine AllReady.cons rfl (fun K hK => ?_) AllReady.nil
          go_simp
          refine KD.out.mono ?_
          rintro e w4 ⟨rfl, c', lp', lt', ⟨vp, vt, s4⟩, p4⟩
          go_simp
          refine hK _ _ ?_
          clear hK K
          clear KD c0 c1 c2 c3 c4 c5
          have bw4 := s4.bw
          obtain ⟨e0, e1, e2, e3, e4, e5⟩ := HAC.out _ bw4
          dsimp only at e2 e3
          have g0 := s4.md.c0
          have g1 := s4.md.c1
          have g2 := s4.md.c2
          have g3 := s4.md.c3
          have hnp : lp'.length ≤ 1000 := by have := p4.np; omega
          have hnt : lt'.length ≤ 1000 := by have := p4.nt; omega
          have KT := Lib.hid (top_all s4.cl)
          have KP1 := Lib.hid (page_any s4.cl page hp)
          have KP2 := Lib.hid (page_any s4.cl xp wp)
          have KX1 := Lib.hid (txn_any s4.cl txn ht)
          have KX2 := Lib.hid (txn_any s4.cl xt wt)
          have KF1 := Lib.hid (find_row s4.rp hnp page)
          have KF2 := Lib.hid (find_row s4.rp hnp xp)
          have KY1 := Lib.hid (find_row s4.rt hnt txn)
          have KY2 := Lib.hid (find_row s4.rt hnt xt)
          rw [p4.fp] at KF1 KF2
          rw [p4.ft] at KY1 KY2
          have S4 := Lib.hid s4
          have P4 := Lib.hid p4
          clear s4 p4 bw4 hnp hnt
          generalize hq1 : c'.fp page = f1 at KP1 KF1
          generalize hq2 : c'.fp xp = f2 at KP2 KF2
          generalize hq3 : c'.ft txn = f3 at KX1 KY1
          generalize hq4 : c'.ft xt = f4 at KX2 KY2
          generalize hq5 : c'.top = f5 at KT g3
          clear hq1 hq2 hq3 hq4 hq5
          refine wpAny_rest 7 (by rfl) (by kernel_rfl) ?_
          simp only [List.drop_succ_cons, List.drop_zero]
          repeat still_step
          still_call (KT.out.mono fun _ _ hh => (⟨hh.1, hh.2.symm⟩ : _ ∧ _))
          repeat still_step
          still_call (KP1.out.mono fun _ _ hh => (⟨hh.1, hh.2.symm⟩ : _ ∧ _))
          repeat still_step
          still_call (KF1.out.mono fun _ _ hh => (⟨hh.1, hh.2.symm⟩ : _ ∧ _))
          repeat still_step
          still_call (KX1.out.mono fun _ _ hh => (⟨hh.1, hh.2.symm⟩ : _ ∧ _))
          repeat still_step
          still_call (KY1.out.mono fun _ _ hh => (⟨hh.1, hh.2.symm⟩ : _ ∧ _))
          repeat still_step
          still_call (KP2.out.mono fun _ _ hh => (⟨hh.1, hh.2.symm⟩ : _ ∧ _))
          repeat still_step
          still_call (KF2.out.mono fun _ _ hh => (⟨hh.1, hh.2.symm⟩ : _ ∧ _))
          repeat still_step
          still_call (KX2.out.mono fun _ _ hh => (⟨hh.1, hh.2.symm⟩ : _ ∧ _))
          repeat still_step
          still_call (KY2.out.mono fun _ _ hh => (⟨hh.1, hh.2.symm⟩ : _ ∧ _))
          repeat still_step
          refine wpStill_nil ?_
          clear KT KP1 KF1 KX1 KY1 KP2 KF2 KX2 KY2 e0 e1 e2 e3 e4 e5 g0 g1 g2 g3
          go_wp2
          go_loopw [12] (fun i wr => ∃ (z : Int), -1 ≤ z ∧ z ≤ n + 1 ∧ i = .int .i64 z ∧ Hid (PlaysW w wr B C S P T M R n (11 * k + 11) c' c'.ss vp vt c'.top lp' lt')) (fun i _ => ((n : Int) + 1 - intOf i).toNat)
          case atStart => exact ⟨-1, by omega, by omega, rfl, S4⟩
          case round =>
            obtain ⟨z, z1, z2, rfl, s5⟩ := hrel
            clear S4
            have hw1 : wrap64 (z + 1) = z + 1 := by unfold wrap64; omega
            by_cases hzn : z ≤ n
            · have KS := Lib.hid ((stream_any s5.out.cl z).mono fun e w' hh => (⟨hh.1, Lib.hid (s5.out.below hh.2)⟩ : e = .returned (.int .i64 (streamV n c'.ss z)) ∧ Hid (PlaysW w w' B C S P T M R n (11 * k + 11) c' c'.ss vp vt c'.top lp' lt')))
              by_cases hz0 : 0 ≤ z
              · obtain ⟨q, rfl⟩ := Int.eq_ofNat_of_zero_le hz0
                by_cases hqn : q < n
                · have hv : streamV n c'.ss (q : Int) = c'.ss.getD q 0 := by unfold streamV; rw [if_pos (hasB_iff.2 ⟨by omega, by omega⟩), Int.toNat_natCast]
                  rw [hv] at KS
                  have g0 := s5.out.md.c0
                  have g1 := s5.out.md.rc q hqn
                  have hqi : (q : Int) < (n : Int) := by omega
                  generalize c'.ss.getD q 0 = v at KS g1
                  clear hv s5
                  go_wp2_with fail
                  refine KS.out.mono ?_
                  rintro e w6 ⟨rfl, s6⟩
                  go_wp2
                  go_roundw
                  case rel => exact ⟨(q : Int) + 1, by omega, by omega, rfl, s6⟩
                  case measure => simp [intOf]; omega
                · have hv : streamV n c'.ss (q : Int) = 0 := by unfold streamV; rw [if_neg (fun h => by have := (hasB_iff.1 h).2; omega)]
                  rw [hv] at KS
                  have hqi : (n : Int) ≤ (q : Int) := by omega
                  clear hv s5
                  go_wp2_with fail
                  refine KS.out.mono ?_
                  rintro e w6 ⟨rfl, s6⟩
                  go_wp2
                  go_roundw
                  case rel => exact ⟨(q : Int) + 1, by omega, by omega, rfl, s6⟩
                  case measure => simp [intOf]; omega
              · have hv : streamV n c'.ss z = 0 := by unfold streamV; rw [if_neg (fun h => hz0 (hasB_iff.1 h).1)]
                rw [hv] at KS
                have hz0 : z < 0 := by omega
                clear hv s5
                go_wp2_with fail
                refine KS.out.mono ?_
                rintro e w6 ⟨rfl, s6⟩
                go_wp2
                go_roundw
                case rel => exact ⟨z + 1, by omega, by omega, rfl, s6⟩
                case measure => simp [intOf]; omega
            · have hzn : (n : Int) < z := by omega
              go_wp2
              go_roundw
              case rel => exact ⟨k + 1, c', lp', lt', by omega, by go_num, ⟨vp, vt, s5.out⟩, P4⟩
              case measure => simp [intOf]; omega
        · have bwa : Below w.heap.size w wa := by obtain ⟨vp, vt, s⟩ := st.out; exact s.bw
          go_wp2
          go_ret
          exact ⟨rfl, bwa⟩
    · go_enter Try.func3, Try.ntmps3
      go_wp2_with fail
      refine KG.out.mono ?_
      rintro e w1 ⟨rfl, rfl⟩
      go_wp2_with fail
      refine (KA.out _ HB0.out).mono ?_
      rintro e w1 ⟨rfl, hb⟩
      have HB1 := Lib.hid hb; clear hb HB0 KG KA
      go_wp2_with fail
      refine (new_no nz w1 hr).mono ?_
      rintro e w2 ⟨rfl, rfl⟩
      by_cases h1 : nz < 1
      · go_wp2
        go_ret
        exact ⟨rfl, HB1.out⟩
      · have h8 : 8 < nz := by omega
        go_wp2
        go_ret
        exact ⟨rfl, HB1.out⟩
end Go.Proofs.Ytcdkloohdafbpaa
