/-
  does OF law 09: a Raise that raises.
-/
import Derived.Test.YtcdkloohdafbpaaCkDoesB
namespace Go.Proofs.Ytcdkloohdafbpaa
open Go.RowKit
theorem raiseL_cons (z : Int) (ss : List Int) (x : Int) (l : List Int) : raiseL z ss (x :: l) = raiseL z (ss.set x.toNat (max (ss.getD x.toNat 0) z)) l := rfl
theorem set_getD (ss : List Int) (m i : Nat) (v : Int) (hm : m < ss.length) : (ss.set m v).getD i 0 = if i = m then v else ss.getD i 0 := by
  simp only [List.getD_eq_getElem?_getD, List.getElem?_set]
  by_cases e : m = i
  · subst e; simp [hm]
  · rw [if_neg e, if_neg (fun x => e x.symm)]
theorem raiseL_getD (z : Int) (l : List Int) : ∀ (ss : List Int), (∀ x ∈ l, ∃ m : Nat, x = (m : Int) ∧ m < ss.length) → ∀ i : Nat, (raiseL z ss l).getD i 0 = if (l.any fun x => x == (i : Int)) = true then max (ss.getD i 0) z else ss.getD i 0 := by
  induction l with
  | nil => intro ss _ i; rfl
  | cons x l ih =>
    intro ss h i
    obtain ⟨m, rfl, hm⟩ := h x (List.mem_cons_self ..)
    rw [raiseL_cons, ih _ (fun y hy => by
      obtain ⟨k, e, hk⟩ := h y (List.mem_cons_of_mem _ hy)
      exact ⟨k, e, by rw [List.length_set]; exact hk⟩), Int.toNat_natCast, set_getD _ _ _ _ hm, List.any_cons]
    by_cases e : i = m
    · subst e
      rw [if_pos rfl, show ((i : Int) == (i : Int)) = true from beq_self_eq_true _, Bool.true_or, if_pos rfl]
      split <;> omega
    · have e2 : ((m : Int) == (i : Int)) = false := by rw [beq_eq_false_iff_ne]; omega
      rw [if_neg e, e2, Bool.false_or]
def inB (l : List Int) (i : Nat) : Bool := ((l.length : Int) == 0) || l.any fun x => x == (i : Int)
theorem any_nums0 (n i : Nat) : ((nums0 n).any fun x => x == (i : Int)) = decide (i < n) := by
  induction n with
  | zero => rfl
  | succ n ih =>
    rw [nums0_succ, List.any_append, ih]
    by_cases e : i = n
    · subst e; simp
    · have e2 : ((n : Int) == (i : Int)) = false := by rw [beq_eq_false_iff_ne]; omega
      simp only [List.any_cons, List.any_nil, e2, Bool.or_false]
      congr 1
      exact propext ⟨fun _ => by omega, fun _ => by omega⟩
theorem raise_ss {n : Nat} {c : Clk} {z : Int} {l ms : List Int} (ho : okR n z l = true) (hc : c.ss.length = n) (hm : ms.length = n)
    (h : ∀ i : Nat, i < n → ms.getD i 0 = if inB l i = true then max (c.ss.getD i 0) z else c.ss.getD i 0) : (c.raise n z l).ss = ms ∧ (c.raise n z l).top = max c.top z := by
  unfold Clk.raise
  rw [if_pos ho]
  refine ⟨?_, rfl⟩
  show raiseL z c.ss _ = ms
  apply List.ext_getElem (by rw [raiseL_len, hc, hm])
  intro i h1 h2
  have hin : i < n := by rw [← hm]; exact h2
  have hg : ∀ (a : List Int) (hi : i < a.length), a[i] = a.getD i 0 := fun a hi => by rw [List.getD_eq_getElem?_getD, List.getElem?_eq_getElem hi]; rfl
  rw [hg _ h1, hg _ h2, h i hin]
  unfold okR at ho
  rw [Bool.and_eq_true] at ho
  by_cases hl : l = []
  · subst hl
    rw [if_pos rfl, raiseL_getD, any_nums0, if_pos (by simpa using hin), if_pos (by unfold inB; simp)]
    intro x hx
    unfold nums0 at hx
    obtain ⟨m, hm1, rfl⟩ := List.mem_map.1 hx
    exact ⟨m, rfl, by rw [hc]; exact List.mem_range.1 hm1⟩
  · rw [if_neg hl, raiseL_getD]
    · unfold inB
      have : ((l.length : Int) == 0) = false := by
        rw [beq_eq_false_iff_ne]; have := List.length_pos_iff.2 hl; omega
      rw [this, Bool.false_or]
    · intro x hx
      have h0 := ho.1
      unfold hasL at h0
      obtain ⟨q0, q1⟩ := hasB_iff.1 (List.all_eq_true.1 h0 x hx)
      obtain ⟨m, rfl⟩ := Int.eq_ofNat_of_zero_le q0
      exact ⟨m, rfl, by omega⟩
theorem PlaysP.raise {k n : Nat} {c : Clk} {lp lt : List (Int × Int)} (h : PlaysP k n c lp lt) (z : Int) (l : List Int) : PlaysP (k + 1) n (c.raise n z l) lp lt := by
  have h' := h.next
  unfold Clk.raise; split
  · exact ⟨h'.np, h'.nt, h'.fp, h'.ft, h'.gt⟩
  · exact h'
theorem any_take {l : List Int} {k : Nat} (h : k < l.length) (f : Int → Bool) : (l.take (k + 1)).any f = ((l.take k).any f || f (l.getD k 0)) := by
  rw [take_one l k h, List.any_append]; simp
set_option maxRecDepth 100000 in
set_option maxHeartbeats 4000000 in
theorem does_raise_yes {w W : World} {B C S P T M R n kk k : Nat} {c : Clk} {lp lt : List (Int × Int)} (h : Plays w W B C S P T M R n kk c lp lt) (pr : PlaysP k n c lp lt) (x : Ac) (hx : AcOk w x) (h0 : x.k = 3) (hq : hasL n x.ml = true) (hn0 : 0 ≤ x.n) (hn1 : x.n ≤ 4611686018427387903) :
    Calls Try.prog 10 #[.pointer (some ⟨C, 0, none⟩), .pointer (some ⟨M, 0, none⟩), .agg x.cells] W fun e w' => e = .returned (.bool true) ∧ ∃ c' lp' lt', Plays w w' B C S P T M R n (kk + 11) c' lp' lt' ∧ PlaysP (k + 1) n c' lp' lt' := by
  obtain ⟨vp, vt, st0⟩ := h
  have st := DoesW.enter st0 x 34
  have hss : c.ss.length = n := ClockAt.sl st0.cl
  have KH := Lib.hid (fun W1 (s1 : DoesW w W1 B C S P T M R n kk c c.ss vp vt c.top lp lt W.heap.size x) => (mhas_any s1.pl.md x.ma x.ml x.mc hx.l (hx.a.below s1.pl.bw)).mono fun e w' hh => (⟨hh.1, Lib.hid (s1.below hh.2)⟩ : e = .returned (.bool (hasL n x.ml)) ∧ Hid (DoesW w w' B C S P T M R n kk c c.ss vp vt c.top lp lt W.heap.size x)))
  have KR := Lib.hid (fun W1 ms tp (s1 : DoesW w W1 B C S P T M R n kk c ms vp vt tp lp lt W.heap.size x) => (raise_allL s1.pl.cl x.n x.ma x.ml x.mc hx.l hx.z (fun W' hf => hx.a.below (s1.pl.bw.trans (hf.below s1.pl.bw.size s1.pl.bk.lo.1 s1.pl.bk.lo.2.1 s1.pl.bk.lo.2.2.1 s1.pl.bk.lo.2.2.2.1)))).mono fun e w' hh => (⟨hh.1, Lib.hid (s1.clock hh.2.1 hh.2.2)⟩ : e = .returned (.int .i64 (if okR n x.n x.ml then 0 else 1)) ∧ Hid (DoesW w w' B C S P T M R n kk (c.raise n x.n x.ml) ms vp vt tp lp lt W.heap.size x)))
  have hok : okR n x.n x.ml = true := by unfold okR; rw [hq, Bool.true_and]; exact mayB_iff.2 ⟨hn0, hn1⟩
  rw [hok] at KR
  rw [hq] at KH
  have PN := Lib.hid (pr.raise x.n x.ml)
  have RS := Lib.hid (fun (ms : List Int) (hm : ms.length = n) h => raise_ss hok hss hm h)
  have HI := Lib.hid hx.a
  have hml := hx.l
  unfold maxLen at hml
  clear hok pr hq
  obtain ⟨xs, xp, xt, xn, ma, ml, mc, rfl⟩ : ∃ xs xp xt xn ma ml mc, x = (⟨3, xs, xp, xt, xn, ma, ml, mc⟩ : Ac) := by
    obtain ⟨xk, xs, xp, xt, xn, ma, ml, mc⟩ := x
    exact ⟨xs, xp, xt, xn, ma, ml, mc, by simp only at h0; rw [h0]⟩
  clear h0
  dsimp only at hn0 hn1
  clear st0 hx
  dsimp only at KH KR HI hml
  simp only [Ac.cells] at KH KR ⊢
  generalize c.raise n xn ml = c' at *
  have s0 := Lib.hid st; clear st
  go_enter Try.func10, Try.ntmps10
  obtain ⟨c0, c1, c2, c3, c4, c5⟩ := s0.out.si
  go_wp2_with fail
  refine (KH.out _ s0.out).mono ?_
  rintro e w1 ⟨rfl, s1⟩
  clear s0 c0 c1 c2 c3 c4 c5 KH
  obtain ⟨d0, d1, d2, d3, d4, d5⟩ := s1.out.si
  have g1 := s1.out.pl.md.c3
  go_wp2_with fail
  obtain ⟨tp, htp⟩ : ∃ tp, (if c.top < xn then xn else c.top) = tp := ⟨_, rfl⟩
  have TP : Hid (max c.top xn = tp) := by rw [Hid, maxIf, htp]
  go_still_tail 8, (by kernel_rfl)
  change wpList _ _ _ _ _ w1.drew
  have s2 := Lib.hid s1.out.drew
  have s3 := Lib.hid (s2.out.set3 tp)
  have e1 := s2.out.pl.md.c3
  have e2 := s2.out.pl.md.mf 3
  generalize w1.drew = w2 at *
  clear s1 g1 d0 d1 d2 d3 d4 d5
  go_wp2_with fail
  generalize w2.setCell ⟨M, 3, none⟩ (.int .i64 tp) = w3 at *
  clear s2 e1 e2 htp
  have n1 := s3.out.pl.md.n1
  have MR : Hid (∀ i : Nat, c.ss.getD i 0 = if i < 0 ∧ inB ml i = true then max (c.ss.getD i 0) xn else c.ss.getD i 0) := fun i => by rw [if_neg (by omega)]
  go_wp2
  go_loopw [17] (fun i wr => ∃ (j : Nat) (ms : List Int), j ≤ n ∧ i = .int .i64 j ∧ Hid (DoesW w wr B C S P T M R n kk c ms vp vt tp lp lt W.heap.size ⟨3, xs, xp, xt, xn, ma, ml, mc⟩) ∧ Hid (∀ i : Nat, ms.getD i 0 = if i < j ∧ inB ml i = true then max (c.ss.getD i 0) xn else c.ss.getD i 0)) (fun i _ => n - (intOf i).toNat)
  case atStart => exact ⟨0, c.ss, Nat.zero_le _, rfl, s3, MR⟩
  case round =>
    obtain ⟨j, ms, hj, rfl, st, mr⟩ := hrel
    clear s3 MR
    obtain ⟨d0, d1, d2, d3, d4, d5⟩ := st.out.si
    have e0 := st.out.pl.md.c0
    by_cases hlt : j < n
    · have hj0 : (0 : Int) ≤ (j : Int) := by omega
      have hjn : (j : Int) < (n : Int) := by omega
      have HIw := Lib.hid (HI.out.below st.out.pl.bw)
      obtain ⟨b0, hb0⟩ : ∃ b, b = ((ml.length : Int) == 0) := ⟨_, rfl⟩
      have hB0 : Hid (b0 = (b0 || (ml.take 0).any fun x => x == (j : Int))) := by rw [Hid, List.take_zero]; simp
      go_wp2
      go_loop [18, 19] (fun v i => ∃ (k : Nat) (b : Bool), k ≤ ml.length ∧ i = .int .i64 k ∧ v = .bool b ∧ Hid (b = (b0 || (ml.take k).any fun x => x == (j : Int)))) (fun _ i => ml.length - (intOf i).toNat)
      case atStart => exact ⟨0, b0, Nat.zero_le _, rfl, by rw [hb0], hB0⟩
      case round =>
        obtain ⟨k1, b, hk1, rfl, rfl, hb⟩ := hrel
        by_cases hl2 : k1 < ml.length
        · obtain ⟨g, off, rfl, hc⟩ := HIw.out.cell hl2
          have HY : Hid (∀ b', b' = (b || (ml.getD k1 0 == (j : Int))) → b' = (b0 || (ml.take (k1 + 1)).any fun x => x == (j : Int))) := fun b' e => by rw [e, hb.out, any_take hl2, Bool.or_assoc]
          clear hb
          generalize ml.getD k1 0 = z at hc HY
          cases b with
          | true =>
            have HZ := Lib.hid (HY.out true rfl)
            go_wp2
            go_round
            case rel => exact ⟨k1 + 1, true, by omega, by go_num, rfl, HZ⟩
            case measure => simp [intOf]; omega
          | false =>
            have HZ := Lib.hid (HY.out (z == (j : Int)) rfl)
            go_wp2
            go_round
            case rel => exact ⟨k1 + 1, _, by omega, by go_num, rfl, HZ⟩
            case measure => simp [intOf]; omega
        · have hke : k1 = ml.length := by omega
          subst hke
          rw [List.take_length, hb0] at hb
          have HB : Hid (inB ml j = b) := hb.out.symm
          clear hb HIw
          cases b with
          | true =>
            have KF : Hid (∀ W1, DoesW w W1 B C S P T M R n kk c ms vp vt tp lp lt W.heap.size ⟨3, xs, xp, xt, xn, ma, ml, mc⟩ → W1.cell? ⟨M, 0, none⟩ = some (.slice (some ⟨R, 0, none⟩) n n) ∧ W1.cell? ⟨R, j, none⟩ = some (.int .i64 (ms.getD j 0)) ∧ W1.frozen? ⟨R, j, none⟩ = false) := fun W1 s1 => ⟨s1.pl.md.c0, s1.pl.md.rc j hlt, s1.pl.md.rf j⟩
            obtain ⟨old, hold⟩ : ∃ old, ms.getD j 0 = old := ⟨_, rfl⟩
            obtain ⟨nv, hnv⟩ : ∃ nv, (if old < xn then xn else old) = nv := ⟨_, rfl⟩
            have KS := Lib.hid (fun W1 (s1 : DoesW w W1 B C S P T M R n kk c ms vp vt tp lp lt W.heap.size ⟨3, xs, xp, xt, xn, ma, ml, mc⟩) => Lib.hid (s1.setR j hlt nv))
            have MR2 : Hid (∀ i : Nat, (ms.set j nv).getD i 0 = if i < j + 1 ∧ inB ml i = true then max (c.ss.getD i 0) xn else c.ss.getD i 0) := fun i => by
              have hm := mr.out i
              rw [set_getD _ _ _ _ (by rw [st.out.pl.md.ml]; exact hlt)]
              by_cases e : i = j
              · subst e
                rw [if_neg (by omega)] at hm
                rw [if_pos rfl, if_pos ⟨by omega, HB.out⟩, ← hnv, ← hold, hm, maxIf]
              · rw [if_neg e, hm]
                by_cases h1 : i < j ∧ inB ml i = true
                · rw [if_pos h1, if_pos ⟨by omega, h1.2⟩]
                · rw [if_neg h1, if_neg (fun h => h1 ⟨by omega, h.2⟩)]
            rw [hold] at KF
            obtain ⟨f0, f1, f2⟩ := KF.out _ st.out
            clear mr hold HB RS KR
            go_wp2_with fail
            go_still_tail 15, (by kernel_rfl)
            change wpList _ _ _ _ _ wr.drew
            have s4 := Lib.hid st.out.drew
            clear d0 d1 d2 d3 d4 d5 e0 f0 f1 f2
            obtain ⟨f0, f1, f2⟩ := KF.out _ s4.out
            have s5 := KS.out _ s4.out
            generalize wr.drew = w4 at *
            clear st s4 KF KS
            go_wp2_with fail
            generalize w4.setCell ⟨R, j, none⟩ (.int .i64 nv) = w5 at *
            clear f0 f1 f2
            go_wp2
            go_roundw
            case rel => exact ⟨j + 1, _, by omega, by go_num, s5, MR2⟩
            case measure => simp [intOf]; omega
          | false =>
            have MR2 : Hid (∀ i : Nat, ms.getD i 0 = if i < j + 1 ∧ inB ml i = true then max (c.ss.getD i 0) xn else c.ss.getD i 0) := fun i => by
              rw [mr.out i]
              by_cases e : i = j
              · subst e
                rw [if_neg (by omega), if_neg (fun h => by rw [HB.out] at h; exact absurd h.2 (by decide))]
              · by_cases h1 : i < j ∧ inB ml i = true
                · rw [if_pos h1, if_pos ⟨by omega, h1.2⟩]
                · rw [if_neg h1, if_neg (fun h => h1 ⟨by omega, h.2⟩)]
            clear mr HB
            go_wp2
            go_roundw
            case rel => exact ⟨j + 1, _, by omega, by go_num, st, MR2⟩
            case measure => simp [intOf]; omega
    · have hje : j = n := by omega
      subst hje
      have RR := Lib.hid (RS.out ms st.out.pl.md.ml (fun i hi => by
        rw [mr.out i]
        by_cases h1 : inB ml i = true
        · rw [if_pos ⟨hi, h1⟩, if_pos h1]
        · rw [if_neg (fun h => h1 h.2), if_neg h1]))
      go_wp2_with fail
      refine (KR.out _ _ _ st.out).mono ?_
      rintro e w6 ⟨rfl, s6⟩
      go_wp2
      go_ret
      exact ⟨rfl, c', _, _, ⟨_, _, by rw [RR.out.1, RR.out.2, TP.out]; exact s6.out.pl.mono (by omega)⟩, PN.out⟩
end Go.Proofs.Ytcdkloohdafbpaa
