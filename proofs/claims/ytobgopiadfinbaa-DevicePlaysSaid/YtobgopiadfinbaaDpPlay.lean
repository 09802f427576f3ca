/-
  THE WALK OF quadrigalaw05.DevicePlays where both devices are there.
-/
import Derived.Test.YtobgopiadfinbaaDpTwo
import Derived.Test.YtobgopiadfinbaaDpDoes
import Derived.Test.YtobgopiadfinbaaDpSameOff
import Derived.Test.YtobgopiadfinbaaDpOut
import Derived.StillTailTactics
namespace Go.Proofs.Ytobgopiadfinbaa
open Go.RowKit
theorem power_uses (P : Nat) (u : Int) (W : World) (hp : W.cell? ⟨P, 1, none⟩ = some (.int .i64 u)) : Calls Try.prog 11 #[.pointer (some ⟨P, 0, none⟩)] W fun e w' => e = .returned (.int .i64 u) ∧ W = w' := by
  go_enter Try.func11, Try.ntmps11
  go_wp2
  go_ret
  exact ⟨rfl, rfl⟩
/-- What the power's cells are, in both. -/
theorem Side.cells {W : World} {D P L M n c MB PB gl gn : Nat} {p : Pn} {sb : Option Nat} (h : Side W D P L M n c MB PB p gl gn sb) : W.cell? ⟨P, 0, none⟩ = some (.bool p.off) ∧ W.cell? ⟨P, 1, none⟩ = some (.int .i64 p.u) ∧ W.cell? ⟨PB, 0, none⟩ = some (.bool p.off) ∧ W.cell? ⟨PB, 3, none⟩ = some (.int .i64 p.u) := by
  obtain ⟨⟨las, f, cl, cn, sa, sc, lt, nt, ls, hQ, hM, _, _⟩, hW, _, _⟩ := h
  obtain ⟨k, _, hd⟩ := hQ.ex
  obtain ⟨lm, hp, _⟩ := hW.ex
  exact ⟨hd.p0, hd.p1, hp.c0, hp.c3⟩
set_option maxRecDepth 100000 in
set_option maxHeartbeats 4000000 in
theorem play_in (n1 n2 : Nat) (la : Option Addr) (A : List Da) (cap : Nat) (w : World) (hn : A.length ≤ maxLen) (ha : DasAt w la A) (hg : greatB A = false) (h1 : 1 ≤ n1 ∧ n1 ≤ 40) (h2 : 1 ≤ n2 ∧ n2 ≤ 40) :
    Calls Try.prog 3 #[.int .i64 (n1 : Int), .int .i64 (n2 : Int), .slice la A.length cap] w fun e w' => e = .returned (.bool true) ∧ Below w.heap.size w w' := by
  have KG := Lib.hid (great_any la A cap w hn ha)
  have KA := Lib.hid (awake_any w)
  obtain ⟨h60, h10⟩ := greatB_no hg
  have H10 := Lib.hid h10; clear h10
  rw [hg] at KG
  clear hg
  have HA := Lib.hid ha; clear ha
  obtain ⟨a1, a2⟩ := h1
  obtain ⟨b1, b2⟩ := h2
  have x1 : (n1 : Int) ≤ 40 := by omega
  have x2 : (n2 : Int) ≤ 40 := by omega
  have x3 : (1 : Int) ≤ (n1 : Int) := by omega
  have x4 : (1 : Int) ≤ (n2 : Int) := by omega
  have x5 : (n1 : Int) ≤ 4096 := by omega
  have x6 : (n2 : Int) ≤ 4096 := by omega
  go_enter Try.func3, Try.ntmps3
  go_wp2_with fail
  refine KG.out.mono ?_
  rintro e w1 ⟨rfl, rfl⟩
  go_wp2_with fail
  refine KA.out.mono ?_
  rintro e w1 ⟨rfl, hb⟩
  have HB1 := Lib.hid hb
  have hs1 := hb.size
  clear hb KA KG
  have PW : PowAt (w1.alloc (.cells #[.bool false, .int .i64 0, .bool false, .int .i64 0] 27)) w1.heap.size 0 0 :=
    ⟨new_cell rfl rfl, new_cell rfl rfl, new_cell rfl rfl, new_cell rfl rfl, fun i => World.frozen?_alloc_at _ _ _ _ rfl⟩
  have HB2 := Lib.hid (HB1.out.alloc hs1 (.cells #[.bool false, .int .i64 0, .bool false, .int .i64 0] 27))
  have hs2 : (w1.alloc (.cells #[.bool false, .int .i64 0, .bool false, .int .i64 0] 27)).heap.size = w1.heap.size + 1 := World.size_alloc _ _
  have KN := Lib.hid (new_at n1 _ w1.heap.size 0 0 PW a1 (by omega))
  clear PW HB1
  go_upto_region 4 with fail
  generalize w1.alloc (.cells #[.bool false, .int .i64 0, .bool false, .int .i64 0] 27) = w2 at *
  generalize w1.heap.size = P at *
  go_wp2_with fail
  refine KN.out.mono ?_
  rintro e w3 ⟨D, L1, M1, rfl, hd, hb3, q1, q2, q3⟩
  clear KN
  have HD3 := Lib.hid hd.out
  have HL3 : D < w3.heap.size ∧ L1 < w3.heap.size ∧ M1 < w3.heap.size := by
    obtain ⟨i1, i2, i3⟩ := HD3.out.lts
    obtain ⟨_, hM, _⟩ := HD3.out.mp
    exact ⟨i1, i3, hM.lt⟩
  have KN := Lib.hid (new_at n2 w3 P 0 0 ⟨HD3.out.p0, HD3.out.p1, HD3.out.p2, HD3.out.p3, HD3.out.pf⟩ b1 (by omega))
  have HB3 := Lib.hid (HB2.out.trans (hb3.out.mono HB2.out.size))
  have hs3 := hb3.out.size
  clear hd hb3 HB2
  go_wp2_with fail
  refine KN.out.mono ?_
  rintro e w4 ⟨E, L2, M2, rfl, he, hb4, q4, q5, q6⟩
  clear KN
  have HE4 := Lib.hid he.out
  have HD4 := Lib.hid (HD3.out.below hb4.out)
  have HL4 : E < w4.heap.size ∧ L2 < w4.heap.size ∧ M2 < w4.heap.size := by
    obtain ⟨i1, i2, i3⟩ := HE4.out.lts
    obtain ⟨_, hM, _⟩ := HE4.out.mp
    exact ⟨i1, i3, hM.lt⟩
  have HB4 := Lib.hid (HB3.out.trans (hb4.out.mono HB3.out.size))
  have hs4 := hb4.out.size
  have KB := Lib.hid (begin_any n1 w4 a1 (by omega))
  clear he hb4 HB3 HD3
  go_wp2_with fail
  refine KB.out.mono ?_
  rintro e w5 ⟨MB1, gl1, gn1, cl1, cn1, rfl, hm, hb5, r1, r2, r3⟩
  clear KB
  have HM5 := Lib.hid hm
  have HL5 := hm.lts
  have HE5 := Lib.hid (HE4.out.below hb5)
  have HD5 := Lib.hid (HD4.out.below hb5)
  have HB5 := Lib.hid (HB4.out.trans (hb5.mono HB4.out.size))
  have hs5 := hb5.size
  have KB := Lib.hid (begin_any n2 w5 b1 (by omega))
  clear hm hb5 HB4 HD4 HE4
  go_wp2_with fail
  refine KB.out.mono ?_
  rintro e w6 ⟨MB2, gl2, gn2, cl2, cn2, rfl, hm, hb6, r4, r5, r6⟩
  clear KB
  have HN6 := Lib.hid hm
  have HL6 := hm.lts
  have HM6 := Lib.hid (HM5.out.below hb6)
  have HE6 := Lib.hid (HE5.out.below hb6)
  have HD6 := Lib.hid (HD5.out.below hb6)
  have HB6 := Lib.hid (HB5.out.trans (hb6.mono HB5.out.size))
  have hs6 := hb6.size
  clear hm hb6 HB5 HD5 HE5 HM5
  have hba := (Below.refl w6.heap.size w6).alloc (Nat.le_refl _) (.cells #[.bool false, .bool false, .int .i64 0, .int .i64 0] 34)
  have T0 := Lib.hid (Tw.begin (w0 := w) (s2 := P + 1) (s3 := w3.heap.size) (s4 := w4.heap.size) (s5 := w5.heap.size) (HD6.out.below hba) (HE6.out.below hba) (HM6.out.below hba) (HN6.out.below hba) (PB := w6.heap.size)
    ⟨new_cell rfl rfl, new_cell rfl rfl, new_cell rfl rfl, new_cell rfl rfl, fun i => World.frozen?_alloc_at _ _ _ _ rfl⟩ ⟨a1, by omega⟩ ⟨b1, by omega⟩ ⟨hs1, by omega⟩ ⟨by omega, by omega, by omega⟩ HL3 ⟨q4, q5, q6⟩ HL4 ⟨r1, r2, r3⟩ HL5 ⟨r4, r5, r6⟩ HL6 ⟨by omega, hs4, hs5, hs6⟩ (HB6.out.trans (hba.mono HB6.out.size)))
  clear hba HD6 HE6 HM6 HN6 HB6 HL3 HL4 HL5 HL6 hs1 hs2 hs3 hs4 hs5 hs6 q1 q2 q3 q4 q5 q6 r1 r2 r3 r4 r5 r6
  go_upto_block 0 with fail
  generalize w6.alloc (.cells #[.bool false, .bool false, .int .i64 0, .int .i64 0] 34) = w7 at *
  generalize w6.heap.size = PB at *
  go_wp2
  go_loopw [13, 14, 15] (fun i _ _ wr => ∃ (j : Nat) (p : Pn) (g1 g2 : Nat) (sb1 sb2 : Option Nat), j ≤ A.length ∧ i = .int .i64 j ∧ Hid (Tw w wr D E P PB L1 M1 n1 MB1 gn1 L2 M2 n2 MB2 gn2 j p g1 g2 sb1 sb2)) (fun i _ _ _ => A.length - (intOf i).toNat)
  case atStart => exact ⟨0, _, _, _, _, _, Nat.zero_le _, rfl, T0⟩
  case round =>
    obtain ⟨j, p, g1, g2, sb1, sb2, hj, rfl, T1⟩ := hrel
    rename World => wa
    clear T0
    by_cases hlt : j < A.length
    · obtain ⟨b, off, e, hcl, hok⟩ := HA.out.at hlt
      subst e
      have hj0 : (0 : Int) ≤ (j : Int) := by omega
      have hj1 : (j : Int) < (A.length : Int) := by omega
      have hx := H10.out _ (mem_getD hlt)
      have T1 := T1.out.below (Below.refl _ _).drew
      have hcl := (hcl.below T1.bw)
      generalize A.getD j noDa = x at *
      obtain ⟨xk, xn, xo, da, dl, dc, ka, kl, kc⟩ := x
      obtain ⟨c0, c1, c2, c3, c4⟩ := hcl
      dsimp only at c0 c1 c2 c3 c4
      have d2 : wa.cell? ⟨b, off + j * 5 + 2, none⟩ = some (.bool xo) := c2
      cases xo
      · skip
        have KD := Lib.hid (does_any T1.a (by omega) ⟨xk, xn, false, da, dl, dc, ka, kl, kc⟩ (arg_ok hok hx.1 hx.2.1 hx.2.2 T1.lo T1.bw))
        simp only [Da.cells] at KD
        have TD := Lib.hid T1
        clear hok hx T1 
        go_upto_region 17 with fail
        refine wp_region_any (by kernel_rfl) ?_
        change wpAny _ _ _ _ _ _ _ (World.drew _)
        refine wpAny_take (i := 0) (v := ?_) rfl (by kernel_rfl) (by kernel_rfl) (by kernel_rfl) (fun _ _ _ h => h) (Or.inl ⟨by rfl, ?_⟩) ?_
        rotate_left 1
        · (intro w9; go_simp; try (with_reducible rfl))
        try simp only [Act.put, List.setIfInBounds_toArray]
        refine wpAny_take (i := 1) (v := ?_) rfl (by kernel_rfl) (by kernel_rfl) (by kernel_rfl) (fun _ _ _ h => h) (Or.inl ⟨by rfl, ?_⟩) ?_
        rotate_left 1
        · (intro w9; go_simp; try (with_reducible rfl))
        try simp only [Act.put]
        refine wpAny_take (i := 2) (v := ?_) rfl (by kernel_rfl) (by kernel_rfl) (by kernel_rfl) (fun _ _ _ h => h) (Or.inl ⟨by rfl, ?_⟩) ?_
        rotate_left 1
        · (intro w9; go_simp; try (with_reducible rfl))
        try simp only [Act.put]
        refine wpAny_take (i := 3) (v := ?_) rfl (by kernel_rfl) (by kernel_rfl) (by kernel_rfl) (fun _ _ _ h => h) (Or.inl ⟨by rfl, ?_⟩) ?_
        rotate_left 1
        · (intro w9; go_simp; try (with_reducible rfl))
        try simp only [Act.put]
        refine wpAny_take (i := 4) (v := ?_) rfl (by kernel_rfl) (by kernel_rfl) (by kernel_rfl) (fun _ _ _ h => h) (Or.inl ⟨by rfl, ?_⟩) ?_
        rotate_left 1
        · (intro w9; go_simp; try (with_reducible rfl))
        try simp only [Act.put]
        refine wpAny_take (i := 5) (v := ?_) rfl (by kernel_rfl) (by kernel_rfl) (by kernel_rfl) (fun _ _ _ h => h) (Or.inl ⟨by rfl, ?_⟩) ?_
        rotate_left 1
        · (intro w9; go_simp; try (with_reducible rfl))
        try simp only [Act.put]
        refine wpAny_ready (rs := [6]) (by kernel_rfl) (by simp) ?_
        refine AllReady.cons rfl (fun K hK => ?_) AllReady.nil
        go_simp
        refine hK _ _ ?_
        clear hK K
        refine wpAny_ready (rs := [7]) (by kernel_rfl) (by simp) ?_
        refine AllReady.cons rfl (fun K hK => ?_) AllReady.nil
        go_simp
        refine KD.out.mono ?_
        rintro e w4 ⟨rfl, p', gl', sb', hs, hc, hgl, hsb⟩
        obtain ⟨sbt, T2⟩ := TD.out.act hs hc hgl hsb
        skip
        have T2 := Lib.hid T2
        have KS1 := Lib.hid (same_q T2.out.a)
        clear hs hc hgl hsb c0 c1 c2 c3 c4 KD TD d2
        go_simp
        refine hK _ _ ?_
        clear hK K
        refine wpAny_take (i := 8) (v := ?_) rfl (by kernel_rfl) (by kernel_rfl) (by kernel_rfl) (fun _ _ _ h => h) (Or.inl ⟨by rfl, ?_⟩) ?_
        rotate_left 1
        · (intro w9; go_simp; try (with_reducible rfl))
        try simp only [Act.put]
        refine wpAny_take (i := 9) (v := ?_) rfl (by kernel_rfl) (by kernel_rfl) (by kernel_rfl) (fun _ _ _ h => h) (Or.inl ⟨by rfl, ?_⟩) ?_
        rotate_left 1
        · (intro w9; go_simp; try (with_reducible rfl))
        try simp only [Act.put]
        refine wpAny_take (i := 10) (v := ?_) rfl (by kernel_rfl) (by kernel_rfl) (by kernel_rfl) (fun _ _ _ h => h) (Or.inl ⟨by rfl, ?_⟩) ?_
        rotate_left 1
        · (intro w9; go_simp; try (with_reducible rfl))
        try simp only [Act.put]
        refine wpAny_take (i := 11) (v := ?_) rfl (by kernel_rfl) (by kernel_rfl) (by kernel_rfl) (fun _ _ _ h => h) (Or.inl ⟨by rfl, ?_⟩) ?_
        rotate_left 1
        · (intro w9; go_simp; try (with_reducible rfl))
        try simp only [Act.put]
        refine wpAny_take (i := 12) (v := ?_) rfl (by kernel_rfl) (by kernel_rfl) (by kernel_rfl) (fun _ _ _ h => h) (Or.inl ⟨by rfl, ?_⟩) ?_
        rotate_left 1
        · (intro w9; go_simp; try (with_reducible rfl))
        try simp only [Act.put]
        refine wpAny_ready (rs := [13]) (by kernel_rfl) (by simp) ?_
        refine AllReady.cons rfl (fun K hK => ?_) AllReady.nil
        go_simp
        refine KS1.out.mono ?_
        rintro e w5 ⟨rfl, hb5⟩
        have T3 := Lib.hid (T2.out.below hb5)
        have KS2 := Lib.hid (same_q T3.out.b)
        clear hb5 KS1 T2
        go_simp
        refine hK _ _ ?_
        clear hK K
        refine wpAny_take (i := 14) (v := ?_) rfl (by kernel_rfl) (by kernel_rfl) (by kernel_rfl) (fun _ _ _ h => h) (Or.inl ⟨by rfl, ?_⟩) ?_
        rotate_left 1
        · (intro w9; go_simp; try (with_reducible rfl))
        try simp only [Act.put]
        refine wpAny_take (i := 15) (v := ?_) rfl (by kernel_rfl) (by kernel_rfl) (by kernel_rfl) (fun _ _ _ h => h) (Or.inl ⟨by rfl, ?_⟩) ?_
        rotate_left 1
        · (intro w9; go_simp; try (with_reducible rfl))
        try simp only [Act.put]
        refine wpAny_take (i := 16) (v := ?_) rfl (by kernel_rfl) (by kernel_rfl) (by kernel_rfl) (fun _ _ _ h => h) (Or.inl ⟨by rfl, ?_⟩) ?_
        rotate_left 1
        · (intro w9; go_simp; try (with_reducible rfl))
        try simp only [Act.put]
        refine wpAny_take (i := 17) (v := ?_) rfl (by kernel_rfl) (by kernel_rfl) (by kernel_rfl) (fun _ _ _ h => h) (Or.inl ⟨by rfl, ?_⟩) ?_
        rotate_left 1
        · (intro w9; go_simp; try (with_reducible rfl))
        try simp only [Act.put]
        refine wpAny_take (i := 18) (v := ?_) rfl (by kernel_rfl) (by kernel_rfl) (by kernel_rfl) (fun _ _ _ h => h) (Or.inl ⟨by rfl, ?_⟩) ?_
        rotate_left 1
        · (intro w9; go_simp; try (with_reducible rfl))
        try simp only [Act.put]
        refine wpAny_take (i := 19) (v := ?_) rfl (by kernel_rfl) (by kernel_rfl) (by kernel_rfl) (fun _ _ _ h => h) (Or.inl ⟨by rfl, ?_⟩) ?_
        rotate_left 1
        · (intro w9; go_simp; try (with_reducible rfl))
        try simp only [Act.put]
        refine wpAny_ready (rs := [20]) (by kernel_rfl) (by simp) ?_
        refine AllReady.cons rfl (fun K hK => ?_) AllReady.nil
        go_simp
        refine KS2.out.mono ?_
        rintro e w6 ⟨rfl, hb6⟩
        have T4 := Lib.hid (T3.out.below hb6)
        obtain ⟨f0, f1, f2, f3⟩ := T4.out.a.cells
        have KO := Lib.hid (powOn_any P p'.off w6 f0)
        have KU := Lib.hid (power_uses P p'.u w6 f1)
        clear hb6 KS2 T3
        go_simp
        refine hK _ _ ?_
        clear hK K
        generalize hpo : p'.off = of' at KO f0 f2
        generalize hpu : p'.u = u' at KU f1 f3
        clear f0 f1
        refine wpAny_rest 21 (by rfl) (by kernel_rfl) ?_
        simp only [List.drop_succ_cons, List.drop_zero]
        repeat still_step
        still_call (KO.out.mono fun _ _ hh => (⟨hh.1, hh.2.symm⟩ : _ ∧ _))
        repeat still_step
        still_call (KU.out.mono fun _ _ hh => (⟨hh.1, hh.2.symm⟩ : _ ∧ _))
        repeat still_step
        refine wpStill_nil ?_
        clear KO KU f2 f3
        go_wp2
        go_roundw
        case rel => exact ⟨j + 1, p', _, _, _, _, by omega, by go_num, T4⟩
        case measure => simp [intOf]; omega
      · have T1s := T1.symm
        have KD := Lib.hid (does_any T1s.a (by omega) ⟨xk, xn, true, da, dl, dc, ka, kl, kc⟩ (arg_ok hok hx.1 hx.2.1 hx.2.2 T1s.lo T1s.bw))
        simp only [Da.cells] at KD
        have TD := Lib.hid T1s
        clear hok hx T1 T1s
        go_upto_region 17 with fail
        refine wp_region_any (by kernel_rfl) ?_
        change wpAny _ _ _ _ _ _ _ (World.drew _)
        refine wpAny_take (i := 0) (v := ?_) rfl (by kernel_rfl) (by kernel_rfl) (by kernel_rfl) (fun _ _ _ h => h) (Or.inl ⟨by rfl, ?_⟩) ?_
        rotate_left 1
        · (intro w9; go_simp; try (with_reducible rfl))
        try simp only [Act.put, List.setIfInBounds_toArray]
        refine wpAny_take (i := 1) (v := ?_) rfl (by kernel_rfl) (by kernel_rfl) (by kernel_rfl) (fun _ _ _ h => h) (Or.inl ⟨by rfl, ?_⟩) ?_
        rotate_left 1
        · (intro w9; go_simp; try (with_reducible rfl))
        try simp only [Act.put]
        refine wpAny_take (i := 2) (v := ?_) rfl (by kernel_rfl) (by kernel_rfl) (by kernel_rfl) (fun _ _ _ h => h) (Or.inl ⟨by rfl, ?_⟩) ?_
        rotate_left 1
        · (intro w9; go_simp; try (with_reducible rfl))
        try simp only [Act.put]
        refine wpAny_take (i := 3) (v := ?_) rfl (by kernel_rfl) (by kernel_rfl) (by kernel_rfl) (fun _ _ _ h => h) (Or.inl ⟨by rfl, ?_⟩) ?_
        rotate_left 1
        · (intro w9; go_simp; try (with_reducible rfl))
        try simp only [Act.put]
        refine wpAny_take (i := 4) (v := ?_) rfl (by kernel_rfl) (by kernel_rfl) (by kernel_rfl) (fun _ _ _ h => h) (Or.inl ⟨by rfl, ?_⟩) ?_
        rotate_left 1
        · (intro w9; go_simp; try (with_reducible rfl))
        try simp only [Act.put]
        refine wpAny_take (i := 5) (v := ?_) rfl (by kernel_rfl) (by kernel_rfl) (by kernel_rfl) (fun _ _ _ h => h) (Or.inl ⟨by rfl, ?_⟩) ?_
        rotate_left 1
        · (intro w9; go_simp; try (with_reducible rfl))
        try simp only [Act.put]
        refine wpAny_ready (rs := [6]) (by kernel_rfl) (by simp) ?_
        refine AllReady.cons rfl (fun K hK => ?_) AllReady.nil
        go_simp
        refine hK _ _ ?_
        clear hK K
        refine wpAny_ready (rs := [7]) (by kernel_rfl) (by simp) ?_
        refine AllReady.cons rfl (fun K hK => ?_) AllReady.nil
        go_simp
        refine KD.out.mono ?_
        rintro e w4 ⟨rfl, p', gl', sb', hs, hc, hgl, hsb⟩
        obtain ⟨sbt, T2⟩ := TD.out.act hs hc hgl hsb
        replace T2 := T2.symm
        have T2 := Lib.hid T2
        have KS1 := Lib.hid (same_q T2.out.a)
        clear hs hc hgl hsb c0 c1 c2 c3 c4 KD TD d2
        go_simp
        refine hK _ _ ?_
        clear hK K
        refine wpAny_take (i := 8) (v := ?_) rfl (by kernel_rfl) (by kernel_rfl) (by kernel_rfl) (fun _ _ _ h => h) (Or.inl ⟨by rfl, ?_⟩) ?_
        rotate_left 1
        · (intro w9; go_simp; try (with_reducible rfl))
        try simp only [Act.put]
        refine wpAny_take (i := 9) (v := ?_) rfl (by kernel_rfl) (by kernel_rfl) (by kernel_rfl) (fun _ _ _ h => h) (Or.inl ⟨by rfl, ?_⟩) ?_
        rotate_left 1
        · (intro w9; go_simp; try (with_reducible rfl))
        try simp only [Act.put]
        refine wpAny_take (i := 10) (v := ?_) rfl (by kernel_rfl) (by kernel_rfl) (by kernel_rfl) (fun _ _ _ h => h) (Or.inl ⟨by rfl, ?_⟩) ?_
        rotate_left 1
        · (intro w9; go_simp; try (with_reducible rfl))
        try simp only [Act.put]
        refine wpAny_take (i := 11) (v := ?_) rfl (by kernel_rfl) (by kernel_rfl) (by kernel_rfl) (fun _ _ _ h => h) (Or.inl ⟨by rfl, ?_⟩) ?_
        rotate_left 1
        · (intro w9; go_simp; try (with_reducible rfl))
        try simp only [Act.put]
        refine wpAny_take (i := 12) (v := ?_) rfl (by kernel_rfl) (by kernel_rfl) (by kernel_rfl) (fun _ _ _ h => h) (Or.inl ⟨by rfl, ?_⟩) ?_
        rotate_left 1
        · (intro w9; go_simp; try (with_reducible rfl))
        try simp only [Act.put]
        refine wpAny_ready (rs := [13]) (by kernel_rfl) (by simp) ?_
        refine AllReady.cons rfl (fun K hK => ?_) AllReady.nil
        go_simp
        refine KS1.out.mono ?_
        rintro e w5 ⟨rfl, hb5⟩
        have T3 := Lib.hid (T2.out.below hb5)
        have KS2 := Lib.hid (same_q T3.out.b)
        clear hb5 KS1 T2
        go_simp
        refine hK _ _ ?_
        clear hK K
        refine wpAny_take (i := 14) (v := ?_) rfl (by kernel_rfl) (by kernel_rfl) (by kernel_rfl) (fun _ _ _ h => h) (Or.inl ⟨by rfl, ?_⟩) ?_
        rotate_left 1
        · (intro w9; go_simp; try (with_reducible rfl))
        try simp only [Act.put]
        refine wpAny_take (i := 15) (v := ?_) rfl (by kernel_rfl) (by kernel_rfl) (by kernel_rfl) (fun _ _ _ h => h) (Or.inl ⟨by rfl, ?_⟩) ?_
        rotate_left 1
        · (intro w9; go_simp; try (with_reducible rfl))
        try simp only [Act.put]
        refine wpAny_take (i := 16) (v := ?_) rfl (by kernel_rfl) (by kernel_rfl) (by kernel_rfl) (fun _ _ _ h => h) (Or.inl ⟨by rfl, ?_⟩) ?_
        rotate_left 1
        · (intro w9; go_simp; try (with_reducible rfl))
        try simp only [Act.put]
        refine wpAny_take (i := 17) (v := ?_) rfl (by kernel_rfl) (by kernel_rfl) (by kernel_rfl) (fun _ _ _ h => h) (Or.inl ⟨by rfl, ?_⟩) ?_
        rotate_left 1
        · (intro w9; go_simp; try (with_reducible rfl))
        try simp only [Act.put]
        refine wpAny_take (i := 18) (v := ?_) rfl (by kernel_rfl) (by kernel_rfl) (by kernel_rfl) (fun _ _ _ h => h) (Or.inl ⟨by rfl, ?_⟩) ?_
        rotate_left 1
        · (intro w9; go_simp; try (with_reducible rfl))
        try simp only [Act.put]
        refine wpAny_take (i := 19) (v := ?_) rfl (by kernel_rfl) (by kernel_rfl) (by kernel_rfl) (fun _ _ _ h => h) (Or.inl ⟨by rfl, ?_⟩) ?_
        rotate_left 1
        · (intro w9; go_simp; try (with_reducible rfl))
        try simp only [Act.put]
        refine wpAny_ready (rs := [20]) (by kernel_rfl) (by simp) ?_
        refine AllReady.cons rfl (fun K hK => ?_) AllReady.nil
        go_simp
        refine KS2.out.mono ?_
        rintro e w6 ⟨rfl, hb6⟩
        have T4 := Lib.hid (T3.out.below hb6)
        obtain ⟨f0, f1, f2, f3⟩ := T4.out.a.cells
        have KO := Lib.hid (powOn_any P p'.off w6 f0)
        have KU := Lib.hid (power_uses P p'.u w6 f1)
        clear hb6 KS2 T3
        go_simp
        refine hK _ _ ?_
        clear hK K
        generalize hpo : p'.off = of' at KO f0 f2
        generalize hpu : p'.u = u' at KU f1 f3
        clear f0 f1
        refine wpAny_rest 21 (by rfl) (by kernel_rfl) ?_
        simp only [List.drop_succ_cons, List.drop_zero]
        repeat still_step
        still_call (KO.out.mono fun _ _ hh => (⟨hh.1, hh.2.symm⟩ : _ ∧ _))
        repeat still_step
        still_call (KU.out.mono fun _ _ hh => (⟨hh.1, hh.2.symm⟩ : _ ∧ _))
        repeat still_step
        refine wpStill_nil ?_
        clear KO KU f2 f3
        go_wp2
        go_roundw
        case rel => exact ⟨j + 1, p', _, _, _, _, by omega, by go_num, T4⟩
        case measure => simp [intOf]; omega
    · obtain rfl : j = A.length := by omega
      have HB := Lib.hid T1.out.bw
      clear T1
      go_wp2
      go_ret
      exact ⟨rfl, HB.out⟩
end Go.Proofs.Ytobgopiadfinbaa
