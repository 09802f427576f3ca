/-
  law 14: does: an act is answered as the two lists answer it.
-/
import Derived.Test.YtjojempjmpaaaaaLkDoesP
namespace Go.Proofs.Ytjojempjmpaaaaa
open Go.RowKit
/-- Three blocks of a call's own: the two lists' table, the act, the answer. -/
structure DB (X : World) (N : Nat) (vh vl : Value) (x : La) : Prop where
  t0 : X.cell? ⟨N, 0, none⟩ = some vh
  t1 : X.cell? ⟨N, 1, none⟩ = some vl
  a0 : X.cell? ⟨N + 1, 0, none⟩ = some (.int .i64 x.kind)
  a1 : X.cell? ⟨N + 1, 1, none⟩ = some (.int .i64 x.own)
  a2 : X.cell? ⟨N + 1, 2, none⟩ = some (.string x.key)
  a3 : X.cell? ⟨N + 1, 3, none⟩ = some (.bool x.wr)
  a4 : X.cell? ⟨N + 1, 4, none⟩ = some (.slice x.ma x.more.length x.mc)
  r0 : X.cell? ⟨N + 1 + 1, 0, none⟩ = some (.slice none 0 0)
  r1 : X.cell? ⟨N + 1 + 1, 1, none⟩ = some (.slice none 0 0)
  f2 : ∀ i, X.frozen? ⟨N + 1 + 1, i, none⟩ = false
  sz : N + 1 + 1 < X.heap.size
theorem DB.below {X Y : World} {N : Nat} {vh vl : Value} {x : La} (h : DB X N vh vl x) (hb : Below X.heap.size X Y) : DB Y N vh vl x :=
  have s := h.sz
  ⟨keep_cell hb h.t0, keep_cell hb h.t1, keep_cell hb h.a0, keep_cell hb h.a1, keep_cell hb h.a2, keep_cell hb h.a3, keep_cell hb h.a4, keep_cell hb h.r0, keep_cell hb h.r1, fun i => (hb.frozen (by show N + 1 + 1 < _; omega)).trans (h.f2 i), Nat.lt_of_lt_of_le s hb.size⟩
theorem db_new (W : World) (vh vl : Value) (x : La) : DB (((W.alloc (.cells #[vh, vl] 29)).alloc (.cells #[.int .i64 x.kind, .int .i64 x.own, .string x.key, .bool x.wr, .slice x.ma x.more.length x.mc] 34)).alloc (.cells #[.slice none 0 0, .slice none 0 0] 29)) W.heap.size vh vl x := by
  have s1 : (W.alloc (.cells #[vh, vl] 29)).heap.size = W.heap.size + 1 := World.size_alloc _ _
  have s2 : ((W.alloc (.cells #[vh, vl] 29)).alloc (.cells #[.int .i64 x.kind, .int .i64 x.own, .string x.key, .bool x.wr, .slice x.ma x.more.length x.mc] 34)).heap.size = W.heap.size + 1 + 1 := by rw [World.size_alloc, s1]
  have b2 := (Below.refl (W.alloc (.cells #[vh, vl] 29)).heap.size (W.alloc (.cells #[vh, vl] 29))).alloc (Nat.le_refl _) (.cells #[.int .i64 x.kind, .int .i64 x.own, .string x.key, .bool x.wr, .slice x.ma x.more.length x.mc] 34)
  have b3 := (Below.refl ((W.alloc (.cells #[vh, vl] 29)).alloc (.cells #[.int .i64 x.kind, .int .i64 x.own, .string x.key, .bool x.wr, .slice x.ma x.more.length x.mc] 34)).heap.size _).alloc (Nat.le_refl _) (.cells #[.slice none 0 0, .slice none 0 0] 29)
  exact ⟨keep_cell b3 (keep_cell b2 (new_cell rfl rfl)), keep_cell b3 (keep_cell b2 (new_cell rfl rfl)), keep_cell b3 (new_cell s1.symm rfl), keep_cell b3 (new_cell s1.symm rfl), keep_cell b3 (new_cell s1.symm rfl), keep_cell b3 (new_cell s1.symm rfl), keep_cell b3 (new_cell s1.symm rfl), new_cell s2.symm rfl, new_cell s2.symm rfl, fun i => World.frozen?_alloc_at _ _ _ _ s2.symm, by rw [World.size_alloc, s2]; omega⟩
/-- What does answers. -/
def DoE (w0 W : World) (T ml mh mw : Nat) (s : Lk) (j : Nat) (e : Ending) (W' : World) : Prop :=
  ∃ (vh vl : Value) (H L : List Wc) (n' : Nat) (s' : Lk), e = .returned (.tuple #[.agg #[vh, vl], .bool true]) ∧ AcN w0 W' T ml mh mw n' s' (j + 1) ∧ MdN W' T s' vh vl H L (j + 1) ∧ FrN s s' T none W W'
section
variable {w0 W : World} {T ml mh mw n j : Nat} {s : Lk}
/-- The end of an act: the answer is stored, and told. -/
theorem do_fin {w5 : World} {n5 : Nat} {s5 : Lk} {N : Nat} {vh vl : Value} {H L : List Wc} (S5 : AcN w0 w5 T ml mh mw n5 s5 (j + 1)) (M5 : MdN w5 T s5 vh vl H L (j + 1)) (F5 : FrN s s5 T none W w5) (hN : N = W.heap.size) (hw : w0.heap.size ≤ W.heap.size) (hb : Nb s5 T (N + 1 + 1)) (hc : ∃ u, w5.cell? ⟨N + 1 + 1, 0, none⟩ = some u) (h1 : 0 < H.length → ∀ g, vh.ownBlock = some g → g ≠ N + 1 + 1) (h2 : 0 < L.length → ∀ g, vl.ownBlock = some g → g ≠ N + 1 + 1) :
    DoE w0 W T ml mh mw s j (.returned (.tuple #[.agg #[vh, vl], .bool true])) ((w5.setCell ⟨N + 1 + 1, 0, none⟩ vh).setCell ⟨N + 1 + 1, 1, none⟩ vl) := by
  have A1 := S5.setC hb hc (by omega) 0 vh
  have hc1 : ∃ u, (w5.setCell ⟨N + 1 + 1, 0, none⟩ vh).cell? ⟨N + 1 + 1, 0, none⟩ = some u := by
    obtain ⟨u, hu⟩ := hc
    exact ⟨_, sc_eq hu⟩
  refine ⟨vh, vl, H, L, n5, s5, rfl, A1.setC hb hc1 (by omega) 1 vl, (M5.setC 0 vh h1 h2).setC 1 vl h1 h2, fun b hb2 hcb hx => ?_⟩
  obtain ⟨q1, q2⟩ := F5 b hb2 hcb hx
  have hlt : b < W.heap.size := by
    obtain ⟨i, v, hv⟩ := hcb
    exact block_lt (p := ⟨b, i, none⟩) hv
  exact ⟨(Below.heap_setCell _ _ _ _ (by show b ≠ N + 1 + 1; omega)).trans ((Below.heap_setCell _ _ _ _ (by show b ≠ N + 1 + 1; omega)).trans q1), q2⟩
/-- Whose block a row of the answer has. -/
theorem do_own {v v0 : Value} {l l0 : List Wc} {Yn N : Nat} {a a0 : Option Addr} {c c0 : Nat} (hv : v = .slice a l.length c) (hv0 : v0 = .slice a0 l0.length c0) (hf : v.ownBlock = none ∨ v = v0 ∨ ∃ g, v.ownBlock = some g ∧ Yn ≤ g) (h0 : 0 < l0.length → ∀ g, v0.ownBlock = some g → Nb s T g ∧ g < N) (hn : ∀ g, N ≤ g → Nb s T g) (hY : N + 1 + 1 < Yn) : 0 < l.length → ∀ g, v.ownBlock = some g → Nb s T g ∧ g ≠ N + 1 + 1 := fun hl g e => by
  rcases hf with hf | hf | ⟨g2, e2, hg2⟩
  · rw [hf] at e; cases e
  · have hll : l.length = l0.length := by
      rw [hv, hv0] at hf
      injection hf
    rw [hf] at e
    have := h0 (by omega) g e
    exact ⟨this.1, by have := this.2; omega⟩
  · rw [e2] at e
    injection e with e
    exact ⟨hn g (by omega), by omega⟩
set_option maxRecDepth 100000 in
set_option maxHeartbeats 16000000 in
theorem does_any (aH : Option Addr) (H : List Wc) (cH : Nat) (aL : Option Addr) (L : List Wc) (cL : Nat) (x : La) (h : AcN w0 W T ml mh mw n s j) (m : MdN W T s (.slice aH H.length cH) (.slice aL L.length cL) H L j) (hok : LaOk W x) (hk : x.key.size ≤ 100) (hml : x.more.length ≤ 10) (hj : j ≤ 60) :
    Calls Try.prog 10 #[.pointer (some ⟨T, 0, none⟩), tabV aH H cH aL L cL, .agg #[.int .i64 x.kind, .int .i64 x.own, .string x.key, .bool x.wr, .slice x.ma x.more.length x.mc]] W (DoE w0 W T ml mh mw s j) := by
  have hdb := db_new W (.slice aH H.length cH) (.slice aL L.length cL) x
  have hb0 : Below W.heap.size W (((W.alloc (.cells #[.slice aH H.length cH, .slice aL L.length cL] 29)).alloc (.cells #[.int .i64 x.kind, .int .i64 x.own, .string x.key, .bool x.wr, .slice x.ma x.more.length x.mc] 34)).alloc (.cells #[.slice none 0 0, .slice none 0 0] 29)) := (((Below.refl _ _).alloc (Nat.le_refl _) _).alloc (by rw [World.size_alloc]; omega) _).alloc (by rw [World.size_alloc, World.size_alloc]; omega) _
  have HW0 := Lib.hid h.bw.size
  have HV1 : Hid (0 < H.length → ∀ g, (Value.slice aH H.length cH).ownBlock = some g → Nb s T g ∧ g < W.heap.size) := fun hl g e => ⟨m.b1 hl g e, (m.q1.lt hl g e).1⟩
  have HV2 : Hid (0 < L.length → ∀ g, (Value.slice aL L.length cL).ownBlock = some g → Nb s T g ∧ g < W.heap.size) := fun hl g e => ⟨m.b2 hl g e, (m.q2.lt hl g e).1⟩
  have HS := Lib.hid (h.below hb0)
  have HM := Lib.hid (m.below hb0)
  have HO := Lib.hid (hok.below hb0)
  have HB := Lib.hid hb0
  have HNW := Lib.hid (fun g (hg : W.heap.size ≤ g) => (h.t.nt_new hg).nb)
  have HK := Lib.hid hk
  have HML := Lib.hid hml
  have HJ := Lib.hid hj
  have how := Lib.hid hok.ow
  clear h m hok hb0 hk hml hj
  unfold tabV
  go_enter Try.func10, Try.ntmps10
  go_upto_region 1 with fail
  generalize (((W.alloc (.cells #[.slice aH H.length cH, .slice aL L.length cL] 29)).alloc (.cells #[.int .i64 x.kind, .int .i64 x.own, .string x.key, .bool x.wr, .slice x.ma x.more.length x.mc] 34)).alloc (.cells #[.slice none 0 0, .slice none 0 0] 29)) = Y at *
  have HD := Lib.hid hdb
  have a0 := HD.out.a0
  clear hdb
  obtain ⟨kd, hkd⟩ : ∃ kd, x.kind = kd := ⟨_, rfl⟩
  rw [hkd] at a0
  rw [hkd]
  by_cases hk0 : kd = 0
  · subst hk0
    have t0 := HD.out.t0
    have t1 := HD.out.t1
    have a1 := HD.out.a1
    have a2 := HD.out.a2
    have a3 := HD.out.a3
    have K1 := Lib.hid (ask14_any (W := Y) aH H cH aL L cL x.own x.key x.wr (by have := HM.out.ln; have := HJ.out; omega) (by have := HM.out.ln; have := HJ.out; omega) HM.out.q1 HM.out.q2)
    unfold tabV at K1
    go_upto_region 3 with fail
    go_wp2_with fail
    refine K1.out.mono ?_
    rintro e w1 ⟨vh', vl', rfl, hq1, hq2, hfr1, hfr2, hb1⟩
    have LNB : Hid ((ask2 H L x.own x.key x.wr).1.length + (ask2 H L x.own x.key x.wr).2.1.length ≤ j + 1) := by
      have := ask2_len (o := x.own) (k := x.key) (b := x.wr) H L
      have := HM.out.ln
      show _ ≤ _
      omega
    have HTA : Hid (∀ (c : Int) (s' : Lk), AskR s x.own x.key x.wr c s' → (ask2 H L x.own x.key x.wr).2.2 = c ∧ Two s' (ask2 H L x.own x.key x.wr).1 (ask2 H L x.own x.key x.wr).2.1) := fun c s' r => HM.out.two.ask HS.out.a.g.c r
    generalize ask2 H L x.own x.key x.wr = A2 at *
    obtain ⟨H2, L2, cd⟩ := A2
    simp only at hq1 hq2 LNB HTA
    obtain ⟨ah2, ch2, hv1, hw1⟩ := hq1.form
    obtain ⟨al2, cl2, hv2, hw2⟩ := hq2.form
    have HQ1 := Lib.hid hq1
    have HQ2 := Lib.hid hq2
    have HF1 := Lib.hid hfr1
    have HF2 := Lib.hid hfr2
    subst hv1 hv2
    clear K1 hq1 hq2 hfr1 hfr2 hw1 hw2 t0 t1
    have hbn : Below w1.heap.size w1 (w1.alloc (.cells #[.slice ah2 H2.length ch2, .slice al2 L2.length cl2] 29)) := (Below.refl _ _).alloc (Nat.le_refl _) _
    have m0 : (w1.alloc (.cells #[.slice ah2 H2.length ch2, .slice al2 L2.length cl2] 29)).cell? ⟨w1.heap.size, 0, none⟩ = some (.slice ah2 H2.length ch2) := new_cell rfl rfl
    have m1 : (w1.alloc (.cells #[.slice ah2 H2.length ch2, .slice al2 L2.length cl2] 29)).cell? ⟨w1.heap.size, 1, none⟩ = some (.slice al2 L2.length cl2) := new_cell rfl rfl
    have HBW := Lib.hid (HB.out.trans ((hb1.trans (hbn.mono hb1.size)).mono HB.out.size))
    have HD2 := Lib.hid ((HD.out.below hb1).below hbn)
    have HS2 := Lib.hid ((HS.out.below hb1).below hbn)
    have HQ12 := Lib.hid (HQ1.out.below hbn)
    have HQ22 := Lib.hid (HQ2.out.below hbn)
    have HMW : Hid (W.heap.size ≤ w1.heap.size) := Nat.le_trans HB.out.size hb1.size
    clear hb1 hbn HQ1 HQ2 a0 a1 a2 a3
    go_upto_region 4 with fail
    generalize w1.alloc (.cells #[.slice ah2 H2.length ch2, .slice al2 L2.length cl2] 29) = w2 at *
    generalize hMM : w1.heap.size = M at m0 m1 HMW ⊢
    clear hMM
    have hbd : Below w2.heap.size w2 w2.drew := (Below.refl _ _).drew
    have HD3 := Lib.hid (HD2.out.below hbd)
    have HS3 := Lib.hid (HS2.out.below hbd)
    have HQ13 := Lib.hid (HQ12.out.below hbd)
    have HQ23 := Lib.hid (HQ22.out.below hbd)
    have HBW3 := Lib.hid (HBW.out.trans (hbd.mono HBW.out.size))
    have d0 := keep_cell hbd m0
    have d1 := keep_cell hbd m1
    have HDD : Hid (w2.drew.cell? ⟨M, 0, none⟩ = some (.slice ah2 H2.length ch2) ∧ w2.drew.cell? ⟨M, 1, none⟩ = some (.slice al2 L2.length cl2)) := ⟨d0, d1⟩
    have b1 := HD3.out.a1
    have b2 := HD3.out.a2
    have b3 := HD3.out.a3
    have KA := Lib.hid (ask_n (b := x.wr) HS3.out (by have := HJ.out; omega) HK.out how.out)
    clear hbd m0 m1 HD2 HS2 HQ12 HQ22 HBW
    go_region_law ((go_simp; go_at_call 12; (with_reducible refine KA.out.mono ?_); rintro e w5 ⟨c5, s5, rfl, hr5, ha5, hf5⟩; have TA := Lib.hid (HTA.out c5 s5 hr5); have S5 := Lib.hid ha5; have F5 := Lib.hid hf5; have hce := TA.out.1; have x0 := hf5.cell (HNW.out M HMW.out) (by simp) HDD.out.1; have x1 := hf5.cell (HNW.out M HMW.out) (by simp) HDD.out.2; have hnr := HNW.out (W.heap.size + 1 + 1) (by omega); have z0 := hf5.cell hnr (by simp) HD3.out.r0; have z1 := hf5.cell hnr (by simp) HD3.out.r1; have zf : ∀ i, w5.frozen? ⟨W.heap.size + 1 + 1, i, none⟩ = false := (fun i => (hf5.frozen hnr ⟨0, _, HD3.out.r0⟩ (by simp) i).trans (HD3.out.f2 i)); have HNR := Lib.hid (hf5 _ hnr ⟨0, _, HD3.out.r0⟩ (by simp)).2; have zz := res_fin (N := W.heap.size + 1) (vh := .slice ah2 H2.length ch2) (vl := .slice al2 L2.length cl2) z0 z1 zf; have y1 := zz.1; have yf := zz.2.1; subst hce; clear hr5 ha5 hf5 hnr zz; go_simp))
    all_goals
      have zz := res_fin (N := W.heap.size + 1) (vh := .slice ah2 H2.length ch2) (vl := .slice al2 L2.length cl2) z0 z1 zf
      have p0 := zz.2.2.1
      have p1 := zz.2.2.2
      have HZ0 : Hid (w5.cell? ⟨W.heap.size + 1 + 1, 0, none⟩ = some (.slice none 0 0)) := z0
      clear zz z0 z1 zf y1 yf x0 x1 d0 d1 b1 b2 b3
      go_wp2
      refine bodyPost_ret (v := .tuple #[.agg #[.slice ah2 H2.length ch2, .slice al2 L2.length cl2], .bool true]) ?_ rfl ?_
      · simp only [results, Try.results10]
        go_simp
      · have o1 := do_own (N := W.heap.size) rfl rfl HF1.out HV1.out HNW.out HD.out.sz
        have o2 := do_own (N := W.heap.size) rfl rfl HF2.out HV2.out HNW.out HD.out.sz
        obtain ⟨q1, b1⟩ := F5.out.rowq HQ13.out (fun hl g e => ⟨(o1 hl g e).1, by simp⟩)
        obtain ⟨q2, b2⟩ := F5.out.rowq HQ23.out (fun hl g e => ⟨(o2 hl g e).1, by simp⟩)
        exact do_fin S5.out ⟨q1, q2, b1, b2, TA.out.2, LNB.out⟩ ((frN_below HBW3.out).comp F5.out (fun _ _ => by simp)) rfl HW0.out HNR.out ⟨_, HZ0.out⟩ (fun hl g e => (o1 hl g e).2) (fun hl g e => (o2 hl g e).2)
  · by_cases hk1 : kd = 1
    · subst hk1
      have t0 := HD.out.t0
      have t1 := HD.out.t1
      have a1 := HD.out.a1
      have hby : Below Y.heap.size Y (Y.alloc (.cells #[.int .i64 x.own] 3)) := (Below.refl _ _).alloc (Nat.le_refl _) _
      have K1 := Lib.hid (leave14_any (W := Y.alloc (.cells #[.int .i64 x.own] 3)) aH H cH aL L cL (some ⟨Y.heap.size, 0, none⟩) [x.own] 1 false (by have := HM.out.ln; have := HJ.out; omega) (by simp) (qwc (HM.out.q1.below hby)) (qwc (HM.out.q2.below hby)) (.inr ⟨Y.heap.size, 0, rfl, fun i hi => by
        have hi : i = 0 := by simpa using hi
        subst hi
        exact new_cell rfl rfl⟩))
      change Hid (Calls _ _ #[_, .slice _ 1 _, _] _ _) at K1
      unfold tabV at K1
      go_upto_region 6 with fail
      go_wp2_with fail
      refine K1.out.mono ?_
      rintro e w1 ⟨vh', vl', vo, H2, L2, out, rfl, hr1, hr2, hro, hpr, hb1⟩
      obtain ⟨ah2, ch2, hv1, _⟩ := hr1.form
      obtain ⟨al2, cl2, hv2, _⟩ := hr2.form
      obtain ⟨ao, co, hvo, _⟩ := hro.form
      have HBY1 := hby.trans (hb1.mono hby.size)
      have HPR := Lib.hid hpr
      have HR1 := Lib.hid hr1
      have HR2 := Lib.hid hr2
      have HRO := Lib.hid hro
      subst hv1 hv2 hvo
      have hbn : Below w1.heap.size w1 (w1.alloc (.cells #[.slice ah2 H2.length ch2, .slice al2 L2.length cl2] 29)) := (Below.refl _ _).alloc (Nat.le_refl _) _
      have m0 : (w1.alloc (.cells #[.slice ah2 H2.length ch2, .slice al2 L2.length cl2] 29)).cell? ⟨w1.heap.size, 0, none⟩ = some (.slice ah2 H2.length ch2) := new_cell rfl rfl
      have m1 : (w1.alloc (.cells #[.slice ah2 H2.length ch2, .slice al2 L2.length cl2] 29)).cell? ⟨w1.heap.size, 1, none⟩ = some (.slice al2 L2.length cl2) := new_cell rfl rfl
      have HYN := Lib.hid (HBY1.trans (hbn.mono HBY1.size))
      have HBN := Lib.hid hbn
      have HW1 : Hid (Y.heap.size ≤ w1.heap.size) := HBY1.size
      clear K1 hr1 hr2 hro hpr hb1 hbn HBY1 t0 t1 a0 a1 hby
      go_upto_region 7 with fail
      generalize w1.alloc (.cells #[.slice ah2 H2.length ch2, .slice al2 L2.length cl2] 29) = w2 at *
      have hbd : Below w2.heap.size w2 w2.drew := (Below.refl _ _).drew
      have HYD := Lib.hid (HYN.out.trans (hbd.mono HYN.out.size))
      have HND := Lib.hid (HBN.out.trans (hbd.mono HBN.out.size))
      have d0 := keep_cell hbd m0
      have d1 := keep_cell hbd m1
      have HDD : Hid (w2.drew.cell? ⟨w1.heap.size, 0, none⟩ = some (.slice ah2 H2.length ch2) ∧ w2.drew.cell? ⟨w1.heap.size, 1, none⟩ = some (.slice al2 L2.length cl2)) := ⟨d0, d1⟩
      have HD3 := Lib.hid (HD.out.below HYD.out)
      have HS3 := Lib.hid (HS.out.below HYD.out)
      have HBW3 := Lib.hid (HB.out.trans (HYD.out.mono HB.out.size))
      have HRO3 := Lib.hid (RowI.below HRO.out HND.out)
      have HQ13 := Lib.hid (HR1.out.q.below HND.out)
      have HQ23 := Lib.hid (HR2.out.q.below HND.out)
      generalize hMM : w1.heap.size = M at d0 d1 HDD ⊢
      have HMM := Lib.hid hMM
      have b1 := HD3.out.a1
      clear hbd m0 m1 hMM
      have KA := Lib.hid (quit_n HS3.out (o := x.own) (by have := HJ.out; omega) how.out)
      have KS : Hid (∀ (X : World) (au : Option Addr) (cu : Nat) (l : List Int), l = out → IntsAt X au l → IntsAt X ao out → Calls Try.prog 20 #[.slice au l.length cu, .slice ao out.length co] X fun e W' => e = .returned (.bool true) ∧ Below X.heap.size X W') := fun X au cu l hl h1 h2 => by
        subst hl
        have hlm : l.length ≤ maxLen := by
          rcases HRO.out.2 with ⟨_, hn⟩ | ⟨g, cap, cur, _, _, _, h1, h2, _⟩
          · rw [hn]; exact Nat.zero_le _
          · exact Nat.le_trans h1 h2
        refine (same_any au ao l l cu co X hlm hlm h1 h2).mono ?_
        rintro e W' ⟨rfl, hb⟩
        rw [beq_self_eq_true]
        exact ⟨rfl, hb⟩
      have HTA : Hid (∀ (ps : List Int) (s' : Lk), ((s.wt x.own = none ∧ s' = s ∧ ps = []) ∨ ∃ w, s.wt x.own = some w ∧ PassL (leftT s x.own) (keysL [(s.con w).k]) ps s') → Two s' H2 L2 ∧ ps = out) := fun ps s' r => by
        obtain ⟨c, hw, _⟩ := HS.out.a.w
        have hp : PassR H (offR [x.own] L) H2 L2 out := HPR.out
        rcases r with ⟨r1, rfl, rfl⟩ | ⟨w, r1, r2⟩
        · obtain ⟨q1, q2⟩ := HM.out.two.quit_no HS.out.a.g hw r1 hp
          exact ⟨q1, q2.symm⟩
        · exact HM.out.two.quit_yes HS.out.a.g hw r1 r2 hp
      have LNB : Hid (H2.length + L2.length ≤ j + 1) := by
        have h1 := HPR.out.n
        have h2 := offH_len false [x.own] H
        have h3 := offR_len (os := [x.own]) L
        have := HM.out.ln
        show _ ≤ _
        omega
      have HGN : Hid (∀ g, Y.heap.size ≤ g → Nb s T g ∧ g ≠ W.heap.size + 1 + 1) := fun g hg => ⟨HNW.out g (by have := HB.out.size; omega), by have := HD.out.sz; omega⟩
      have HO1 : Hid (∀ g, (Value.slice ah2 H2.length ch2).ownBlock = some g → Y.heap.size < g) := fun g e => by
        have h1 := (World.ownsRow.lt HR1.out g e).1
        rw [World.size_alloc] at h1; omega
      have HO2 : Hid (∀ g, (Value.slice al2 L2.length cl2).ownBlock = some g → Y.heap.size < g) := fun g e => by
        have h1 := (World.ownsRow.lt HR2.out g e).1
        rw [World.size_alloc] at h1; omega
      have HO3 : Hid (∀ g, (Value.slice ao out.length co).ownBlock = some g → Y.heap.size < g) := fun g e => by
        have h1 := (World.ownsRow.lt HRO.out g e).1
        rw [World.size_alloc] at h1; omega
      go_region_law (first
        | (go_simp; go_at_call 13; (with_reducible refine KA.out.mono ?_); rintro e w5 ⟨u, ps, n5, s5, rfl, hru, h0u, hcs, ha5, hf5, hnu⟩; have TA := Lib.hid (HTA.out ps s5 hcs); have S5 := Lib.hid ha5; have F5 := Lib.hid hf5; have hnm := (HNW.out M (by have h1 := HMM.out; have h2 := HW1.out; have h3 := HB.out.size; omega)); have x0 := hf5.cell hnm (by simp) HDD.out.1; have x1 := hf5.cell hnm (by simp) HDD.out.2; have hnr := HNW.out (W.heap.size + 1 + 1) (by omega); have z0 := hf5.cell hnr (by simp) HD3.out.r0; have z1 := hf5.cell hnr (by simp) HD3.out.r1; have zf : ∀ i, w5.frozen? ⟨W.heap.size + 1 + 1, i, none⟩ = false := (fun i => (hf5.frozen hnr ⟨0, _, HD3.out.r0⟩ (by simp) i).trans (HD3.out.f2 i)); have HNR := Lib.hid (hf5 _ hnr ⟨0, _, HD3.out.r0⟩ (by simp)).2; have HX := Lib.hid (show w5.cell? ⟨M, 0, none⟩ = some (.slice ah2 H2.length ch2) ∧ w5.cell? ⟨M, 1, none⟩ = some (.slice al2 L2.length cl2) from ⟨x0, x1⟩); have HZ := Lib.hid (show w5.cell? ⟨W.heap.size + 1 + 1, 0, none⟩ = some (.slice none 0 0) ∧ w5.cell? ⟨W.heap.size + 1 + 1, 1, none⟩ = some (.slice none 0 0) ∧ ∀ i, w5.frozen? ⟨W.heap.size + 1 + 1, i, none⟩ = false from ⟨z0, z1, zf⟩); obtain ⟨au, cu, hvu, hxu⟩ := hru.form; have IU := Lib.hid (hxu w5 (fun _ _ => rfl)); have IO : Hid (IntsAt w5 ao out) := (by obtain ⟨ao2, co2, hvo2, hio⟩ := hf5.ints HRO3.out (fun g e => ⟨(HGN.out g (Nat.le_of_lt (HO3.out g e))).1, by simp⟩); cases hvo2; exact hio); subst hvu; have zz := trivial; clear hru h0u hcs ha5 hf5 hnu hnm hnr zz; go_simp)
        | (go_simp; go_at_call 20; (with_reducible refine (KS.out _ _ _ _ TA.out.2 IU.out IO.out).mono ?_); rintro e w6 ⟨rfl, hb6⟩; have S6 := Lib.hid (S5.out.below hb6); have B6 := Lib.hid hb6; have x0 := keep_cell hb6 HX.out.1; have x1 := keep_cell hb6 HX.out.2; have z0 := keep_cell hb6 HZ.out.1; have z1 := keep_cell hb6 HZ.out.2.1; have hz5 : W.heap.size + 1 + 1 < w5.heap.size := block_lt (p := ⟨W.heap.size + 1 + 1, 0, none⟩) HZ.out.1; have zf : ∀ i, w6.frozen? ⟨W.heap.size + 1 + 1, i, none⟩ = false := (fun i => (hb6.frozen (by show W.heap.size + 1 + 1 < _; exact hz5)).trans (HZ.out.2.2 i)); have zz := res_fin (N := W.heap.size + 1) (vh := .slice ah2 H2.length ch2) (vl := .slice al2 L2.length cl2) z0 z1 zf; have y1 := zz.1; have yf := zz.2.1; have HW6 := Lib.hid z0; have HFZ := Lib.hid zf; have HZ1 := Lib.hid z1; clear zz hz5; clear hb6; go_simp))
      all_goals
        have zz := res_fin (N := W.heap.size + 1) (vh := .slice ah2 H2.length ch2) (vl := .slice al2 L2.length cl2) HW6.out HZ1.out HFZ.out
        have p0 := zz.2.2.1
        have p1 := zz.2.2.2
        clear zz z0 z1 zf y1 yf x0 x1 d0 d1 b1
        go_wp2
        refine bodyPost_ret (v := .tuple #[.agg #[.slice ah2 H2.length ch2, .slice al2 L2.length cl2], .bool true]) ?_ rfl ?_
        · simp only [results, Try.results10]
          go_simp
        · obtain ⟨q1, c1⟩ := F5.out.rowq HQ13.out (fun _ g e => ⟨(HGN.out g (Nat.le_of_lt (HO1.out g e))).1, by simp⟩)
          obtain ⟨q2, c2⟩ := F5.out.rowq HQ23.out (fun _ g e => ⟨(HGN.out g (Nat.le_of_lt (HO2.out g e))).1, by simp⟩)
          have hF : FrN s s5 T none W w6 := ((frN_below HBW3.out).comp F5.out (fun b hb => by simp)).comp (frN_below B6.out) (fun _ _ => by simp)
          exact do_fin S6.out ⟨q1.below B6.out, q2.below B6.out, c1, c2, TA.out.1, LNB.out⟩ hF rfl HW0.out HNR.out ⟨_, HW6.out⟩ (fun _ g e => (HGN.out g (Nat.le_of_lt (HO1.out g e))).2) (fun _ g e => (HGN.out g (Nat.le_of_lt (HO2.out g e))).2)
    · have hk0i : ¬ kd = (0 : Int) := hk0
      have t0 := HD.out.t0
      have t1 := HD.out.t1
      have a1 := HD.out.a1
      have HR0 : Hid (RowI (Y.alloc (.cells #[.int .i64 x.own] 3)) Y.heap.size (.slice (some ⟨Y.heap.size, 0, none⟩) 1 1) [x.own]) := World.ownsRow_lit Y #[.int .i64 x.own] 1 (Nat.le_refl _) (by decide) rfl
      have hby : Below Y.heap.size Y (Y.alloc (.cells #[.int .i64 x.own] 3)) := (Below.refl _ _).alloc (Nat.le_refl _) _
      have HBY := Lib.hid hby
      have HMO := Lib.hid (HO.out.m.below hby)
      have a4 := keep_cell hby HD.out.a4
      have HWFO : Hid (∀ z, z ∈ [x.own] ++ x.more → (Lit.int .i64 z).wf = true) := fun z hz => (List.mem_append.1 hz).elim (fun c => by rw [List.mem_singleton.1 c]; exact how.out) (fun c => HO.out.mw z c)
      have HMLN : Hid (([x.own] ++ x.more).length ≤ 12) := by have := HML.out; show _ ≤ 12; simp; omega
      have HMPOS : Hid (0 < ([x.own] ++ x.more).length) := by show 0 < _; simp
      clear hby
      go_upto_region 8 with fail
      go_wp2_with (at_builtin; refine append_il rfl _ _ rfl Y.heap.size (.slice (some ⟨Y.heap.size, 0, none⟩) 1 1) [x.own] x.ma x.more x.mc rfl HR0.out rfl HMO.out (by have := HML.out; simp; omega) (by rw [World.size_alloc]; omega) ?_)
      intro v8 w8 hr8 hg8 ho8
      have hr8 : RowI w8 Y.heap.size v8 ([x.own] ++ x.more) := hr8
      generalize hOS : [x.own] ++ x.more = os at *
      have hb8 : Below Y.heap.size Y w8 := HBY.out.grown hg8 (by rw [World.size_alloc]; omega) (fun g e => (World.ownsRow.lt HR0.out g e).1)
      obtain ⟨gA, cA, hv8, hgA, hcA⟩ := RowI.cells hr8 HMPOS.out
      have HGL : Hid (gA < w8.heap.size) := by
        have := (World.ownsRow.lt hr8 gA (by rw [hv8]; rfl)).2
        exact this
      have HGA := Lib.hid hgA
      have HCA := Lib.hid hcA
      subst hv8
      have K1 := Lib.hid (leave14_any (W := w8) aH H cH aL L cL (some ⟨gA, 0, none⟩) os cA true (by have := HM.out.ln; have := HJ.out; omega) (by have := HMLN.out; omega) (qwc (HM.out.q1.below hb8)) (qwc (HM.out.q2.below hb8)) (.inr ⟨gA, 0, rfl, fun i hi => by rw [Nat.zero_add]; exact hcA i hi⟩))
      unfold tabV at K1
      have HB8 := Lib.hid hb8
      have t0 := keep_cell hb8 HD.out.t0
      have t1 := keep_cell hb8 HD.out.t1
      clear hr8 hg8 ho8 hgA hcA a4 HR0 HMO hb8
      go_upto_region 9 with fail
      go_wp2_with fail
      refine K1.out.mono ?_
      rintro e w1 ⟨vh', vl', vo, H2, L2, out, rfl, hr1, hr2, hro, hpr, hb1⟩
      obtain ⟨ah2, ch2, hv1, _⟩ := hr1.form
      obtain ⟨al2, cl2, hv2, _⟩ := hr2.form
      obtain ⟨ao, co, hvo, _⟩ := hro.form
      have HBY1 := HB8.out.trans (hb1.mono HB8.out.size)
      have HB81 := Lib.hid hb1
      have HPR := Lib.hid hpr
      have HR1 := Lib.hid hr1
      have HR2 := Lib.hid hr2
      have HRO := Lib.hid hro
      subst hv1 hv2 hvo
      have hbn : Below w1.heap.size w1 (w1.alloc (.cells #[.slice ah2 H2.length ch2, .slice al2 L2.length cl2] 29)) := (Below.refl _ _).alloc (Nat.le_refl _) _
      have m0 : (w1.alloc (.cells #[.slice ah2 H2.length ch2, .slice al2 L2.length cl2] 29)).cell? ⟨w1.heap.size, 0, none⟩ = some (.slice ah2 H2.length ch2) := new_cell rfl rfl
      have m1 : (w1.alloc (.cells #[.slice ah2 H2.length ch2, .slice al2 L2.length cl2] 29)).cell? ⟨w1.heap.size, 1, none⟩ = some (.slice al2 L2.length cl2) := new_cell rfl rfl
      have HYN := Lib.hid (HBY1.trans (hbn.mono HBY1.size))
      have HBN := Lib.hid hbn
      have HW1 : Hid (Y.heap.size ≤ w1.heap.size) := HBY1.size
      clear K1 hr1 hr2 hro hpr hb1 hbn HBY1 t0 t1 a1
      go_upto_region 10 with fail
      generalize w1.alloc (.cells #[.slice ah2 H2.length ch2, .slice al2 L2.length cl2] 29) = w2 at *
      have hbd : Below w2.heap.size w2 w2.drew := (Below.refl _ _).drew
      have HYD := Lib.hid (HYN.out.trans (hbd.mono HYN.out.size))
      have HND := Lib.hid (HBN.out.trans (hbd.mono HBN.out.size))
      have d0 := keep_cell hbd m0
      have d1 := keep_cell hbd m1
      have HDD : Hid (w2.drew.cell? ⟨w1.heap.size, 0, none⟩ = some (.slice ah2 H2.length ch2) ∧ w2.drew.cell? ⟨w1.heap.size, 1, none⟩ = some (.slice al2 L2.length cl2)) := ⟨d0, d1⟩
      have HD3 := Lib.hid (HD.out.below HYD.out)
      have HS3 := Lib.hid (HS.out.below HYD.out)
      have HBW3 := Lib.hid (HB.out.trans (HYD.out.mono HB.out.size))
      have HRO3 := Lib.hid (RowI.below HRO.out HND.out)
      have HQ13 := Lib.hid (HR1.out.q.below HND.out)
      have HQ23 := Lib.hid (HR2.out.q.below HND.out)
      generalize hMM : w1.heap.size = M at d0 d1 HDD ⊢
      have HMM := Lib.hid hMM
      have b1 := HD3.out.a1
      clear hbd m0 m1 hMM
      have KA := Lib.hid (free_n HS3.out (by have := HJ.out; omega) (g := gA) (cap := cA) (os := os) (HNW.out gA (by have := HGA.out; have := HB.out.size; omega)) (fun i hi => keep_cell HND.out (keep_cell HB81.out (HCA.out i hi))) HMPOS.out HWFO.out HMLN.out)
      have KS : Hid (∀ (X : World) (au : Option Addr) (cu : Nat) (l : List Int), l = out → IntsAt X au l → IntsAt X ao out → Calls Try.prog 20 #[.slice au l.length cu, .slice ao out.length co] X fun e W' => e = .returned (.bool true) ∧ Below X.heap.size X W') := fun X au cu l hl h1 h2 => by
        subst hl
        have hlm : l.length ≤ maxLen := by
          rcases HRO.out.2 with ⟨_, hn⟩ | ⟨g, cap, cur, _, _, _, h1, h2, _⟩
          · rw [hn]; exact Nat.zero_le _
          · exact Nat.le_trans h1 h2
        refine (same_any au ao l l cu co X hlm hlm h1 h2).mono ?_
        rintro e W' ⟨rfl, hb⟩
        rw [beq_self_eq_true]
        exact ⟨rfl, hb⟩
      have HTA : Hid (∀ (ps : List Int) (s' : Lk) (kl : List ByteArray), PassL (goneL s os) (keysL kl) ps s' → (∀ k, k ∉ kl → SameAt s (goneL s os) k) → Two s' H2 L2 ∧ ps = out) := fun ps s' kl r1 r2 => by
        obtain ⟨c, hw, _⟩ := HS.out.a.w
        have hp : PassR (offR os H) (offR os L) H2 L2 out := HPR.out
        exact HM.out.two.free HS.out.a.g hw r1 r2 hp
      have LNB : Hid (H2.length + L2.length ≤ j + 1) := by
        have h1 := HPR.out.n
        have h2 := offH_len true os H
        have h3 := offR_len (os := os) L
        have := HM.out.ln
        show _ ≤ _
        omega
      have HGN : Hid (∀ g, Y.heap.size ≤ g → Nb s T g ∧ g ≠ W.heap.size + 1 + 1) := fun g hg => ⟨HNW.out g (by have := HB.out.size; omega), by have := HD.out.sz; omega⟩
      have HO1 : Hid (∀ g, (Value.slice ah2 H2.length ch2).ownBlock = some g → gA < g) := fun g e => by
        have h1 := (World.ownsRow.lt HR1.out g e).1
        have := HGL.out; omega
      have HO2 : Hid (∀ g, (Value.slice al2 L2.length cl2).ownBlock = some g → gA < g) := fun g e => by
        have h1 := (World.ownsRow.lt HR2.out g e).1
        have := HGL.out; omega
      have HO3 : Hid (∀ g, (Value.slice ao out.length co).ownBlock = some g → gA < g) := fun g e => by
        have h1 := (World.ownsRow.lt HRO.out g e).1
        have := HGL.out; omega
      go_region_law (first
        | (go_simp; go_at_call 14; (with_reducible refine KA.out.mono ?_); rintro e w5 ⟨u, kl, ps, n5, s5, rfl, hru, h0u, hcs, hcs2, ha5, hf5, hnu⟩; have TA := Lib.hid (HTA.out ps s5 kl hcs hcs2); have S5 := Lib.hid ha5; have F5 := Lib.hid hf5; have hnm := (HNW.out M (by have h1 := HMM.out; have h2 := HW1.out; have h3 := HB.out.size; omega)); have hexm : some gA ≠ some M := (fun e => by injection e with e; have h1 := HGL.out; have h2 := HB81.out.size; have h3 := HMM.out; omega); have hexr : some gA ≠ some (W.heap.size + 1 + 1) := (fun e => by injection e with e; have h1 := HGA.out; have h2 := HD.out.sz; omega); have x0 := hf5.cell hnm hexm HDD.out.1; have x1 := hf5.cell hnm hexm HDD.out.2; have hnr := HNW.out (W.heap.size + 1 + 1) (by omega); have z0 := hf5.cell hnr hexr HD3.out.r0; have z1 := hf5.cell hnr hexr HD3.out.r1; have zf : ∀ i, w5.frozen? ⟨W.heap.size + 1 + 1, i, none⟩ = false := (fun i => (hf5.frozen hnr ⟨0, _, HD3.out.r0⟩ hexr i).trans (HD3.out.f2 i)); have HNR := Lib.hid (hf5 _ hnr ⟨0, _, HD3.out.r0⟩ hexr).2; have HX := Lib.hid (show w5.cell? ⟨M, 0, none⟩ = some (.slice ah2 H2.length ch2) ∧ w5.cell? ⟨M, 1, none⟩ = some (.slice al2 L2.length cl2) from ⟨x0, x1⟩); have HZ := Lib.hid (show w5.cell? ⟨W.heap.size + 1 + 1, 0, none⟩ = some (.slice none 0 0) ∧ w5.cell? ⟨W.heap.size + 1 + 1, 1, none⟩ = some (.slice none 0 0) ∧ ∀ i, w5.frozen? ⟨W.heap.size + 1 + 1, i, none⟩ = false from ⟨z0, z1, zf⟩); obtain ⟨au, cu, hvu, hxu⟩ := hru.form; have IU := Lib.hid (hxu w5 (fun _ _ => rfl)); have IO : Hid (IntsAt w5 ao out) := (by obtain ⟨ao2, co2, hvo2, hio⟩ := hf5.ints HRO3.out (fun g e => ⟨(HGN.out g (by have := HO3.out g e; have := HGA.out; omega)).1, fun q => (by injection q with q; have := HO3.out g e; omega)⟩); cases hvo2; exact hio); subst hvu; have zz := trivial; clear hru h0u hcs hcs2 ha5 hf5 hnu hnm hnr hexm hexr zz; go_simp)
        | (go_simp; go_at_call 20; (with_reducible refine (KS.out _ _ _ _ TA.out.2 IU.out IO.out).mono ?_); rintro e w6 ⟨rfl, hb6⟩; have S6 := Lib.hid (S5.out.below hb6);  have B6 := Lib.hid hb6; have x0 := keep_cell hb6 HX.out.1; have x1 := keep_cell hb6 HX.out.2; have z0 := keep_cell hb6 HZ.out.1; have z1 := keep_cell hb6 HZ.out.2.1; have hz5 : W.heap.size + 1 + 1 < w5.heap.size := block_lt (p := ⟨W.heap.size + 1 + 1, 0, none⟩) HZ.out.1; have zf : ∀ i, w6.frozen? ⟨W.heap.size + 1 + 1, i, none⟩ = false := (fun i => (hb6.frozen (by show W.heap.size + 1 + 1 < _; exact hz5)).trans (HZ.out.2.2 i)); have zz := res_fin (N := W.heap.size + 1) (vh := .slice ah2 H2.length ch2) (vl := .slice al2 L2.length cl2) z0 z1 zf; have y1 := zz.1; have yf := zz.2.1; have HW6 := Lib.hid z0; have HFZ := Lib.hid zf; have HZ1 := Lib.hid z1; clear zz hz5; clear hb6; go_simp))
      all_goals
        have zz := res_fin (N := W.heap.size + 1) (vh := .slice ah2 H2.length ch2) (vl := .slice al2 L2.length cl2) HW6.out HZ1.out HFZ.out
        have p0 := zz.2.2.1
        have p1 := zz.2.2.2
        clear zz z0 z1 zf y1 yf x0 x1 d0 d1 b1
        go_wp2
        refine bodyPost_ret (v := .tuple #[.agg #[.slice ah2 H2.length ch2, .slice al2 L2.length cl2], .bool true]) ?_ rfl ?_
        · simp only [results, Try.results10]
          go_simp
        · obtain ⟨q1, c1⟩ := F5.out.rowq HQ13.out (fun _ g e => ⟨(HGN.out g (by have := HO1.out g e; have := HGA.out; omega)).1, fun q => (by injection q with q; have := HO1.out g e; omega)⟩)
          obtain ⟨q2, c2⟩ := F5.out.rowq HQ23.out (fun _ g e => ⟨(HGN.out g (by have := HO2.out g e; have := HGA.out; omega)).1, fun q => (by injection q with q; have := HO2.out g e; omega)⟩)
          have hF : FrN s s5 T none W w6 := ((frN_below HBW3.out).comp F5.out (fun b hb q => by
            injection q with q
            obtain ⟨i, v, hv⟩ := hb
            have h1 : b < W.heap.size := block_lt (p := ⟨b, i, none⟩) hv
            have h2 := HGA.out
            have h3 := HB.out.size
            omega)).comp (frN_below B6.out) (fun _ _ => by simp)
          exact do_fin S6.out ⟨q1.below B6.out, q2.below B6.out, c1, c2, TA.out.1, LNB.out⟩ hF rfl HW0.out HNR.out ⟨_, HW6.out⟩ (fun _ g e => (HGN.out g (by have := HO1.out g e; have := HGA.out; omega)).2) (fun _ g e => (HGN.out g (by have := HO2.out g e; have := HGA.out; omega)).2)
end
end Go.Proofs.Ytjojempjmpaaaaa
