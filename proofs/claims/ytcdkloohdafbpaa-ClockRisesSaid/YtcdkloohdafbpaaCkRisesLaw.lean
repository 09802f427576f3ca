/-
  THE WALK OF quadrigalaw09.ClockRises: it returns true, and writes nothing that was there.
-/
import Derived.Test.YtcdkloohdafbpaaCkRisesPure
import Derived.Test.YtcdkloohdafbpaaCkPeeksLaw
namespace Go.Proofs.Ytcdkloohdafbpaa
open Go.RowKit
/-- All that a round knows. -/
structure RisesW (w W : World) (B C S P T k : Nat) (c : Clk) (vs vp vt : Value) (ls lp lt : List (Int × Int)) : Prop where
  cl : CAt W C S P T 8 (2 * k) c
  bw : Below w.heap.size w W
  rs : RowT W B vs ls
  rp : RowT W B vp lp
  rt : RowT W B vt lt
theorem RisesW.below {w W W' : World} {B C S P T k : Nat} {c : Clk} {vs vp vt : Value} {ls lp lt : List (Int × Int)} (h : RisesW w W B C S P T k c vs vp vt ls lp lt) (hb : Below W.heap.size W W') : RisesW w W' B C S P T k c vs vp vt ls lp lt :=
  ⟨h.cl.below hb, h.bw.trans (hb.mono h.bw.size), h.rs.below hb, h.rp.below hb, h.rt.below hb⟩
theorem RisesW.tick {w W W' : World} {B C S P T k : Nat} {c c' : Clk} {vs vp vt : Value} {ls lp lt : List (Int × Int)} (h : RisesW w W B C S P T k c vs vp vt ls lp lt) (hc : CAt W' C S P T 8 (2 * k + 2) c') (hf : Fr C S P T W W') (hC : C < B) (hS : S < B) (hP : P < B) (hT : T < B)
    (h1 : w.heap.size ≤ C) (h2 : w.heap.size ≤ S) (h3 : w.heap.size ≤ P) (h4 : w.heap.size ≤ T) : RisesW w W' B C S P T (k + 1) c' vs vp vt ls lp lt :=
  ⟨hc, h.bw.trans (hf.below h.bw.size h1 h2 h3 h4), h.rs.fr hf hC hS hP hT, h.rp.fr hf hC hS hP hT, h.rt.fr hf hC hS hP hT⟩
theorem max_if (a b : Int) : max a b = if a < b then b else a := by split <;> omega
theorem index8 (z : Int) : ∃ q : Nat, wrap64 ((IntKind.u64.wrap z).tmod 8) = (q : Int) ∧ q < 8 := by
  have e : ∃ m : Nat, IntKind.u64.wrap z = (m : Int) := ⟨(IntKind.u64.wrap z).toNat, by
    rw [Int.toNat_of_nonneg]
    show (0 : Int) ≤ z % _
    exact Int.emod_nonneg _ (by decide)⟩
  obtain ⟨m, hm⟩ := e
  rw [hm]
  have e2 : ((m : Int)).tmod 8 = ((m % 8 : Nat) : Int) := by rw [Int.tmod_eq_emod_of_nonneg (by omega)]; omega
  rw [e2]
  refine ⟨m % 8, ?_, Nat.mod_lt _ (by omega)⟩
  unfold wrap64
  omega
set_option maxRecDepth 100000 in
set_option maxHeartbeats 4000000 in
theorem clockRises_walk (a : Option Addr) (L : List Ac) (cap : Nat) (w : World) (hn : L.length ≤ maxLen) (ha : ActsAt w a L) :
    Calls Try.prog 4 #[.slice a L.length cap] w fun e w' => e = .returned (.bool true) ∧ Below w.heap.size w w' := by
  have KG := Lib.hid (great_any a L cap w hn ha)
  have HA := Lib.hid ha
  have HAW := Lib.hid ha; clear ha
  have KA := Lib.hid (fun W (hW : Below w.heap.size w W) => (awake_any W).mono fun e w' h => (⟨h.1, hW.trans (h.2.mono hW.size)⟩ : e = .returned (.bool true) ∧ Below w.heap.size w w'))
  have HB0 : Hid (Below w.heap.size w w) := Below.refl _ _
  unfold maxLen at hn
  cases hg : greatB L with
  | true =>
    rw [hg] at KG
    go_enter Try.func4, Try.ntmps4
    go_wp2_with fail
    refine KG.out.mono ?_
    rintro e w1 ⟨rfl, rfl⟩
    go_wp2_with fail
    refine (KA.out _ HB0.out).mono ?_
    rintro e w1 ⟨rfl, hb⟩
    go_wp2
    go_ret
    exact ⟨rfl, hb⟩
  | false =>
    obtain ⟨h60, _⟩ := greatB_no hg
    rw [hg] at KG
    clear hg
    go_enter Try.func4, Try.ntmps4
    go_wp2_with fail
    refine KG.out.mono ?_
    rintro e w1 ⟨rfl, rfl⟩
    go_wp2_with fail
    refine (KA.out _ HB0.out).mono ?_
    rintro e w1 ⟨rfl, hb⟩
    have HB1 := Lib.hid hb; clear hb HB0 KG
    go_wp2_with fail
    refine (new_all 8 w1 (by omega) (by omega)).mono ?_
    rintro e w2 ⟨C, S, P, T, rfl, hc, hb, q1, q2, q3, q4⟩
    obtain ⟨l1, l2, l3, l4⟩ := ClockAt.lts hc
    have ST : Hid (RisesW w w2 w2.heap.size C S P T 0 (Clk.new 8) (.slice none 0 0) (.slice none 0 0) (.slice none 0 0) [] [] []) :=
      ⟨hc, HB1.out.trans (hb.mono HB1.out.size), RowT.none _ _, RowT.none _ _, RowT.none _ _⟩
    have PR : Hid (RisesP 0 (Clk.new 8) [] [] []) := RisesP.new
    have s1 := HB1.out.size
    clear HB1 hb hc
    obtain ⟨B, hB⟩ : ∃ B, B = w2.heap.size := ⟨_, rfl⟩
    rw [← hB] at l1 l2 l3 l4 ST
    have hBw : B ≤ w2.heap.size := by omega
    clear hB
    go_wp2
    go_loopw [4, 5, 6, 7] (fun vs vp vt i wr => ∃ (k : Nat) (c : Clk) (ls lp lt : List (Int × Int)), k ≤ L.length ∧ i = .int .i64 k ∧ Hid (RisesW w wr B C S P T k c vs vp vt ls lp lt) ∧ Hid (RisesP k c ls lp lt) ∧ B ≤ wr.heap.size) (fun _ _ _ i _ => L.length - (intOf i).toNat)
    case atStart => exact ⟨0, Clk.new 8, [], [], [], Nat.zero_le _, rfl, ST, PR, hBw⟩
    case round =>
      obtain ⟨k, c, ls, lp, lt, hk, rfl, st, pr, hBr⟩ := hrel
      clear ST PR hBw
      by_cases hlt : k < L.length
      · obtain ⟨b, off, rfl, hcells, hok⟩ := (HA.out.below st.out.bw).at hlt
        have hs6 : Six ((wr.alloc (.cells (L.getD k noAc).cells 34))) wr.heap.size (L.getD k noAc) := by
          refine ⟨?_, ?_, ?_, ?_, ?_, ?_⟩ <;> simp [World.cell?_alloc_at, Ac.cells]
        have S6 := Lib.hid hs6
        have hal : Below wr.heap.size wr (wr.alloc (.cells (L.getD k noAc).cells 34)) := (Below.refl _ _).alloc (Nat.le_refl _) _
        have AL := Lib.hid hal
        clear hs6 hal
        simp only [Ac.cells] at S6 AL
        generalize L.getD k noAc = x at *
        obtain ⟨c0, c1, c2, c3, c4, c5⟩ := hcells
        have wp := hok.p
        have wt := hok.t
        clear hok
        obtain ⟨xk, xs, xp, xt, xn, ma, ml, mc⟩ := x
        dsimp only at S6 AL c0 c1 c2 c3 c4 c5 wp wt
        have hsz := st.out.bw.size
        have hk60 : k ≤ 60 := by omega
        obtain ⟨m1, m2, m3, m4⟩ := ClockAt.lts st.out.cl
        by_cases hk2 : xk = 2
        · subst hk2
          have KS := Lib.hid ((sees_all (st.out.cl.below AL.out) xt xp wt wp (by unfold maxLen; omega)).mono fun e w' hh => (⟨hh.1, Lib.hid ((st.out.below AL.out).tick (ClockAt.mono hh.2.1 (by omega)) hh.2.2 l1 l2 l3 l4 (by omega) (by omega) (by omega) (by omega)), Lib.hid (S6.out.fr hh.2.2 (by omega) (by omega) (by omega) (by omega)), Nat.le_trans (by rw [World.size_alloc]; omega) hh.2.2.size⟩ : e = .returned (.tuple #[]) ∧ Hid (RisesW w w' B C S P T (k + 1) (c.sees xt xp) u4 u5 u6 ls lp lt) ∧ Hid (Six w' wr.heap.size ⟨2, xs, xp, xt, xn, ma, ml, mc⟩) ∧ B ≤ w'.heap.size))
          go_wp2_with fail
          refine KS.out.mono ?_
          rintro e w4 ⟨rfl, st4, z4, hB4⟩
          clear KS st S6 AL c0 c1 c2 c3 c4 c5
          obtain ⟨d0, d1, d2, d3, d4, d5⟩ := z4.out
          by_cases hp0 : 0 ≤ xp
          · have PN := Lib.hid (pr.out.sees xt xp hp0)
            have hl1 := pr.out.np
            have hl2 := pr.out.nt
            have st5 : Hid (RisesW w w4.drew B C S P T (k + 1) (c.sees xt xp) u4 u5 u6 ls lp lt) := Lib.hid (st4.out.below ((Below.refl _ _).drew))
            have KF1 := Lib.hid (find_row st5.out.rt (by omega) xt)
            have KF2 := Lib.hid (find_row st5.out.rp (by omega) xp)
            have KW := Lib.hid ((with_row st5.out.rt (by omega) hB4 xt (max (findL lt xt) (findL lp xp))).mono fun e w' hh => (⟨hh.choose, hh.choose_spec.1, Lib.hid ⟨(st5.out.below hh.choose_spec.2.2).cl, (st5.out.below hh.choose_spec.2.2).bw, (st5.out.below hh.choose_spec.2.2).rs, (st5.out.below hh.choose_spec.2.2).rp, hh.choose_spec.2.1⟩, Nat.le_trans hB4 hh.choose_spec.2.2.size, keepC hh.choose_spec.2.2 d2, keepC hh.choose_spec.2.2 d3⟩ : ∃ v', e = .returned v' ∧ Hid (RisesW w w' B C S P T (k + 1) (c.sees xt xp) u4 u5 v' ls lp (withL lt xt (max (findL lt xt) (findL lp xp)))) ∧ B ≤ w'.heap.size ∧ w'.cell? ⟨wr.heap.size, 2, none⟩ = some (.int .i64 xp) ∧ w'.cell? ⟨wr.heap.size, 3, none⟩ = some (.int .i64 xt)))
            clear st4 st5 z4 pr
            generalize withL lt xt (max (findL lt xt) (findL lp xp)) = lt' at KW PN
            generalize findL lt xt = f1 at KF1 KW
            generalize findL lp xp = f2 at KF2 KW
            obtain ⟨f, hf⟩ : ∃ f, (if f1 < f2 then f2 else f1) = f := ⟨_, rfl⟩
            rw [max_if, hf] at KW
            go_wp2_with fail
            go_region_held3 (fun w' => w'.cell? ⟨wr.heap.size, 2, none⟩ = some (.int .i64 xp) ∧ w'.cell? ⟨wr.heap.size, 3, none⟩ = some (.int .i64 xt))
              ((refine ⟨?_, ?_⟩ <;> (first | with_reducible assumption | (with_reducible refine keep_drew ?_; with_reducible assumption))))
              (first
                | (go_at_call_of 13 (Value.int .i64 xt); refine KF1.out.mono ?_; rintro e w5 ⟨rfl, rfl⟩)
                | (go_at_call_of 13 (Value.int .i64 xp); refine KF2.out.mono ?_; rintro e w5 ⟨rfl, rfl⟩)
                | (go_at_call 17; refine KW.out.mono ?_; rintro e w5 ⟨v5, rfl, st6, hB6, g2, g3⟩))
            all_goals go_wp2
            go_roundw
            case rel => exact ⟨k + 1, _, ls, lp, _, by omega, by go_num, st6, PN, hB6⟩
            case measure => simp [intOf]; omega
          · have PN := Lib.hid (pr.out.sees_no xt xp hp0)
            have hp1 : xp < 0 := by omega
            go_wp2
            go_roundw
            case rel => exact ⟨k + 1, _, ls, lp, lt, by omega, by go_num, st4, PN, hB4⟩
            case measure => simp [intOf]; omega
        · have hd : (xk == 2) = false := by rw [beq_eq_false_iff_ne]; exact hk2
          obtain ⟨q, hq, hq8⟩ := index8 xs
          have hl0 := pr.out.ns
          have hl1 := pr.out.np
          have hl2 := pr.out.nt
          obtain ⟨n, hN, hE, g1, g2, g3, PN⟩ := pr.out.tick q hq8 xp xt hk60
          have KT := Lib.hid ((tick_all (st.out.cl.below AL.out) q xp xt wp wt (by unfold maxLen; omega)).mono fun e w' hh => (⟨by rw [← hN, ← hE]; exact hh.1, Lib.hid ((st.out.below AL.out).tick hh.2.1 hh.2.2 l1 l2 l3 l4 (by omega) (by omega) (by omega) (by omega)), Lib.hid (S6.out.fr hh.2.2 (by omega) (by omega) (by omega) (by omega)), Nat.le_trans (by rw [World.size_alloc]; omega) hh.2.2.size⟩ : e = .returned (.tuple #[.int .i64 n, .int .i64 0]) ∧ Hid (RisesW w w' B C S P T (k + 1) (c.tick 8 q xp xt) u4 u5 u6 ls lp lt) ∧ Hid (Six w' wr.heap.size ⟨xk, xs, xp, xt, xn, ma, ml, mc⟩) ∧ B ≤ w'.heap.size))
          have PN := Lib.hid PN
          clear hN hE
          generalize c.tick 8 q xp xt = c' at KT PN
          go_wp2_with fail
          refine KT.out.mono ?_
          rintro e w4 ⟨rfl, st4, z4, hB4⟩
          clear KT st S6 AL c0 c1 c2 c3 c4 c5 pr
          obtain ⟨d0, d1, d2, d3, d4, d5⟩ := z4.out
          have KF0 := Lib.hid (find_row st4.out.rs (by omega) q)
          have KF1 := Lib.hid (find_row st4.out.rp (by omega) xp)
          have KF2 := Lib.hid (find_row st4.out.rt (by omega) xt)
          generalize findL ls q = f0 at KF0 g1
          generalize findL lp xp = f1 at KF1 g2
          generalize findL lt xt = f2 at KF2 g3
          go_wp2_with fail
          refine KF0.out.mono ?_
          rintro e w5 ⟨rfl, rfl⟩
          go_wp2_with fail
          refine KF1.out.mono ?_
          rintro e w5 ⟨rfl, rfl⟩
          go_wp2_with fail
          refine KF2.out.mono ?_
          rintro e w5 ⟨rfl, rfl⟩
          clear KF0 KF1 KF2
          have KW := Lib.hid ((with_row st4.out.rs (by omega) hB4 q n).mono fun e w' hh => (⟨hh.choose, hh.choose_spec.1, Lib.hid ⟨(st4.out.below hh.choose_spec.2.2).cl, (st4.out.below hh.choose_spec.2.2).bw, hh.choose_spec.2.1, (st4.out.below hh.choose_spec.2.2).rp, (st4.out.below hh.choose_spec.2.2).rt⟩, Nat.le_trans hB4 hh.choose_spec.2.2.size, Lib.hid (z4.out.below hh.choose_spec.2.2)⟩ : ∃ v', e = .returned v' ∧ Hid (RisesW w w' B C S P T (k + 1) c' v' u5 u6 (withL ls q n) lp lt) ∧ B ≤ w'.heap.size ∧ Hid (Six w' wr.heap.size ⟨xk, xs, xp, xt, xn, ma, ml, mc⟩)))
          go_wp2_with fail
          refine KW.out.mono ?_
          rintro e w5 ⟨v5, rfl, st5, hB5, z5⟩
          clear KW st4 z4 hB4 d0 d1 d2 d3 d4 d5
          obtain ⟨d0, d1, d2, d3, d4, d5⟩ := z5.out
          have KW := Lib.hid ((with_row st5.out.rp (by omega) hB5 xp n).mono fun e w' hh => (⟨hh.choose, hh.choose_spec.1, Lib.hid ⟨(st5.out.below hh.choose_spec.2.2).cl, (st5.out.below hh.choose_spec.2.2).bw, (st5.out.below hh.choose_spec.2.2).rs, hh.choose_spec.2.1, (st5.out.below hh.choose_spec.2.2).rt⟩, Nat.le_trans hB5 hh.choose_spec.2.2.size, Lib.hid (z5.out.below hh.choose_spec.2.2)⟩ : ∃ v', e = .returned v' ∧ Hid (RisesW w w' B C S P T (k + 1) c' v5 v' u6 (withL ls q n) (withL lp xp n) lt) ∧ B ≤ w'.heap.size ∧ Hid (Six w' wr.heap.size ⟨xk, xs, xp, xt, xn, ma, ml, mc⟩)))
          go_wp2_with fail
          refine KW.out.mono ?_
          rintro e w6 ⟨v6, rfl, st6, hB6, z6⟩
          clear KW st5 z5 hB5 d0 d1 d2 d3 d4 d5
          obtain ⟨d0, d1, d2, d3, d4, d5⟩ := z6.out
          have KW := Lib.hid ((with_row st6.out.rt (by omega) hB6 xt n).mono fun e w' hh => (⟨hh.choose, hh.choose_spec.1, Lib.hid ⟨(st6.out.below hh.choose_spec.2.2).cl, (st6.out.below hh.choose_spec.2.2).bw, (st6.out.below hh.choose_spec.2.2).rs, (st6.out.below hh.choose_spec.2.2).rp, hh.choose_spec.2.1⟩, Nat.le_trans hB6 hh.choose_spec.2.2.size⟩ : ∃ v', e = .returned v' ∧ Hid (RisesW w w' B C S P T (k + 1) c' v5 v6 v' (withL ls q n) (withL lp xp n) (withL lt xt n)) ∧ B ≤ w'.heap.size))
          go_wp2_with fail
          refine KW.out.mono ?_
          rintro e w7 ⟨v7, rfl, st7, hB7⟩
          clear KW st6 z6 hB6 d0 d1 d2 d3 d4 d5
          go_wp2
          go_roundw
          case rel => exact ⟨k + 1, _, _, _, _, by omega, by go_num, st7, PN, hB7⟩
          case measure => simp [intOf]; omega
      · go_wp2
        go_ret
        exact ⟨rfl, st.out.bw⟩
end Go.Proofs.Ytcdkloohdafbpaa
