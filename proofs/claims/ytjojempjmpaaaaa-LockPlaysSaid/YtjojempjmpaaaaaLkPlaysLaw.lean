/-
  THE WALK OF law 14's LockPlays.
-/
import Derived.Test.YtjojempjmpaaaaaLkDoes
import Derived.Test.YtjojempjmpaaaaaLkLooks
import Derived.Test.YtjojempjmpaaaaaLkm15
namespace Go.Proofs.Ytjojempjmpaaaaa
open Go.RowKit
theorem great_no {l : List La} (h : greatL l = false) : l.length ≤ 60 ∧ ∀ x, x ∈ l → x.key.size ≤ 100 ∧ x.more.length ≤ 10 := by
  unfold greatL at h
  rw [Bool.or_eq_false_iff] at h
  refine ⟨by simpa using h.1, fun x hx => ?_⟩
  have h2 := List.any_eq_false.1 h.2 x hx
  unfold bigLa at h2
  simpa using h2
/-- Behind so many acts: the program's table, and the two lists' in a block of the law's own. -/
structure PlN (w0 wr : World) (T ml mh mw n : Nat) (s : Lk) (j N : Nat) (vh vl : Value) (H L : List Wc) : Prop where
  a : AcN w0 wr T ml mh mw n s j
  m : MdN wr T s vh vl H L j
  t0 : wr.cell? ⟨N, 0, none⟩ = some vh
  t1 : wr.cell? ⟨N, 1, none⟩ = some vl
  f : ∀ i, wr.frozen? ⟨N, i, none⟩ = false
  nb : Nb s T N
  nB : w0.heap.size ≤ N
theorem PlN.below {w0 wr X : World} {T ml mh mw n j N : Nat} {s : Lk} {vh vl : Value} {H L : List Wc} (h : PlN w0 wr T ml mh mw n s j N vh vl H L) (hb : Below wr.heap.size wr X) : PlN w0 X T ml mh mw n s j N vh vl H L :=
  ⟨h.a.below hb, h.m.below hb, keep_cell hb h.t0, keep_cell hb h.t1, fun i => (hb.frozen (by have : N < wr.heap.size := block_lt (p := ⟨N, 0, none⟩) h.t0; exact this)).trans (h.f i), h.nb, h.nB⟩
theorem PlN.looks {w0 wr : World} {T ml mh mw n j N : Nat} {s : Lk} {aH aL : Option Addr} {cH cL : Nat} {H L : List Wc} (h : PlN w0 wr T ml mh mw n s j N (.slice aH H.length cH) (.slice aL L.length cL) H L) (hj : j ≤ 61) : LooksAt w0.heap.size wr T ml mh mw n s aH H cH aL L cL :=
  ⟨h.a.t, h.a.a.g.c, h.m.two, by have := h.a.a.nb; omega, fun k => by have := h.a.a.lens k; omega, qwc h.m.q1, qwc h.m.q2, by have := h.m.ln; omega, by have := h.m.ln; omega⟩
theorem rowq_ne {X : World} {v : Value} {l : List Wc} {N : Nat} {a : Option Addr} {c m : Nat} (h : RowQ X v l) (hl : 0 < l.length) (hc : X.cell? ⟨N, 0, none⟩ = some (.slice a m c)) : ∀ g, v.ownBlock = some g → g ≠ N := fun g e q => by
  subst q
  rcases h with ⟨h, _⟩ | ⟨g', cap, e', h1, h2, h3⟩
  · rw [h] at e; cases e
  · rw [e'] at e
    injection e with e
    subst e
    obtain ⟨b, off, e3, c0, _⟩ := h3.cell (i := 0) hl
    injection e3 with e3
    injection e3 with e4 e5
    subst e4 e5
    have c0 : X.cell? ⟨g', 0, none⟩ = some (.int .i64 l[0].ow) := by simpa using c0
    rw [hc] at c0
    cases c0
set_option maxRecDepth 100000 in
set_option maxHeartbeats 16000000 in
theorem lockPlays_walk (la : Option Addr) (l : List La) (lc : Nat) (owner : Int) (key : ByteArray) (W : World) (hl : l.length ≤ maxLen) (hm : LasAt W la l) (hwf : (Lit.int .i64 owner).wf = true) :
    Calls Try.prog 3 #[.slice la l.length lc, .int .i64 owner, .string key] W fun e W' => e = .returned (.bool true) ∧ Below W.heap.size W W' := by
  have KG := Lib.hid (great14_any (c := lc) hl hm)
  have KA := Lib.hid (fun W => awake14_any W)
  have KN := Lib.hid (fun W => new_table W)
  have HM := Lib.hid hm
  have HWF := Lib.hid hwf
  clear hm hwf
  cases hg : greatL l with
  | true =>
    rw [hg] at KG
    go_enter Try.func3, Try.ntmps3
    go_wp2_with fail
    refine KG.out.mono ?_
    rintro e w1 ⟨rfl, hb1⟩
    have HB1 := Lib.hid hb1
    clear KG KN HM hb1
    go_wp2_with fail
    refine (KA.out _).mono ?_
    rintro e w2 ⟨rfl, hb2⟩
    have HB2 := Lib.hid (HB1.out.trans (hb2.mono HB1.out.size))
    clear hb2 KA
    go_wp2
    go_ret
    exact ⟨rfl, HB2.out⟩
  | false =>
  rw [hg] at KG
  by_cases h100 : 100 < key.size
  · have h1 : (100 : Int) < (key.size : Int) := by omega
    go_enter Try.func3, Try.ntmps3
    go_wp2_with fail
    refine KG.out.mono ?_
    rintro e w1 ⟨rfl, hb1⟩
    have HB1 := Lib.hid hb1
    clear KG KN HM hb1
    go_wp2_with fail
    refine (KA.out _).mono ?_
    rintro e w2 ⟨rfl, hb2⟩
    have HB2 := Lib.hid (HB1.out.trans (hb2.mono HB1.out.size))
    clear hb2 KA
    go_wp2
    go_ret
    exact ⟨rfl, HB2.out⟩
  · have h1 : (key.size : Int) ≤ 100 := by omega
    have hks : key.size ≤ 100 := by omega
    have HGR := Lib.hid (great_no hg)
    have HKS := Lib.hid hks
    clear hg
    go_enter Try.func3, Try.ntmps3
    go_wp2_with fail
    refine KG.out.mono ?_
    rintro e w1 ⟨rfl, hb1⟩
    have HB1 := Lib.hid hb1
    clear KG hb1
    go_wp2_with fail
    refine (KA.out _).mono ?_
    rintro e w0 ⟨rfl, hb2⟩
    have HB0 := Lib.hid (HB1.out.trans (hb2.mono HB1.out.size))
    clear hb2 KA HB1
    go_wp2_with fail
    refine (KN.out _).mono ?_
    rintro e w3 ⟨T, ml, mh, mw, rfl, h3, b3⟩
    have A3 : AcN w0 w3 T ml mh mw 0 Lk.none 0 := ⟨h3, ac_none, b3, rfl⟩
    have hbn : Below w3.heap.size w3 (w3.alloc (.cells #[.slice none 0 0, .slice none 0 0] 29)) := (Below.refl _ _).alloc (Nat.le_refl _) _
    have S0 : Hid (PlN w0 (w3.alloc (.cells #[.slice none 0 0, .slice none 0 0] 29)) T ml mh mw 0 Lk.none 0 w3.heap.size (.slice none 0 0) (.slice none 0 0) [] []) :=
      ⟨A3.below hbn, ⟨.inl ⟨rfl, rfl⟩, .inl ⟨rfl, rfl⟩, fun h => (by simp at h), fun h => (by simp at h), two_none, Nat.le_refl _⟩, new_cell rfl rfl, new_cell rfl rfl, fun i => World.frozen?_alloc_at _ _ _ _ rfl, (h3.nt_new (Nat.le_refl _)).nb, b3.size⟩
    have hli : (l.length : Int) ≤ 60 := by have := HGR.out.1; omega
    clear KN h3 b3 A3 hbn
    go_upto_region 5 with fail
    generalize w3.alloc (.cells #[.slice none 0 0, .slice none 0 0] 29) = w4 at *
    generalize w3.heap.size = N at *
    go_wp2
    go_loopw [9] (fun i wr => ∃ (j n : Nat) (s : Lk) (vh vl : Value) (H L : List Wc), i = .int .i64 (j : Int) ∧ j ≤ l.length ∧ Hid (PlN w0 wr T ml mh mw n s j N vh vl H L)) (fun i _ => l.length - (intOf i).toNat)
    case atStart => exact ⟨0, 0, _, _, _, _, _, rfl, Nat.zero_le _, S0⟩
    case round =>
      obtain ⟨j, n, s, vh, vl, H, L, rfl, hj, st⟩ := hrel
      rename World => wr
      clear S0
      by_cases hlt : j < l.length
      · have HLT := Lib.hid hlt
        have hbig := HGR.out.2 l[j] (List.getElem_mem hlt)
        have hj60 : j ≤ 60 := Nat.le_trans (Nat.le_of_lt hlt) HGR.out.1
        have HJ := Lib.hid hj60
        have HBIG := Lib.hid hbig
        obtain ⟨b2, off2, rfl, HCE⟩ : ∃ b off, la = some ⟨b, off, none⟩ ∧ Hid (∀ X : World, Below w0.heap.size w0 X → X.cell? ⟨b, off + j * 5, none⟩ = some (.int .i64 l[j].kind) ∧ X.cell? ⟨b, off + j * 5 + 1, none⟩ = some (.int .i64 l[j].own) ∧ X.cell? ⟨b, off + j * 5 + 2, none⟩ = some (.string l[j].key) ∧ X.cell? ⟨b, off + j * 5 + 3, none⟩ = some (.bool l[j].wr) ∧ X.cell? ⟨b, off + j * 5 + 4, none⟩ = some (.slice l[j].ma l[j].more.length l[j].mc) ∧ LaOk X l[j]) := by
          obtain ⟨b, off, e, _⟩ := (HM.out.below HB0.out).cells hlt
          refine ⟨b, off, e, fun X hX => ?_⟩
          obtain ⟨b3, off3, e3, k0, k1, k2, k3, k4, hok⟩ := (HM.out.below (HB0.out.trans (hX.mono HB0.out.size))).cells hlt
          rw [e] at e3
          injection e3 with e3
          injection e3 with e4 e5
          subst e4 e5
          exact ⟨k0, k1, k2, k3, k4, hok⟩
        clear hbig hj60
        generalize l[j] = x at *
        obtain ⟨aH, cH, rfl, _⟩ := st.out.m.q1.form
        obtain ⟨aL, cL, rfl, _⟩ := st.out.m.q2.form
        have hji : (j : Int) < (l.length : Int) := by omega
        have hjn : (0 : Int) ≤ (j : Int) := Int.natCast_nonneg _
        have KD : Hid (∀ X, Below wr.heap.size wr X → Calls Try.prog 10 #[.pointer (some ⟨T, 0, none⟩), .agg #[.slice aH H.length cH, .slice aL L.length cL], .agg #[.int .i64 x.kind, .int .i64 x.own, .string x.key, .bool x.wr, .slice x.ma x.more.length x.mc]] X (DoE w0 X T ml mh mw s j)) := fun X hX => by
          have hp := st.out.below hX
          exact does_any aH H cH aL L cL x hp.a hp.m (HCE.out X hp.a.bw).2.2.2.2.2 HBIG.out.1 HBIG.out.2 HJ.out
        have HB1 : Hid (Below wr.heap.size wr wr.drew) := (Below.refl _ _).drew
        have HB2 : Hid (Below wr.heap.size wr (wr.alloc (.cells #[.slice none 0 0, .slice none 0 0] 29)).drew) := ((Below.refl _ _).alloc (Nat.le_refl _) _).drew
        have P1 := Lib.hid (st.out.below HB1.out)
        have P2 := Lib.hid (st.out.below HB2.out)
        have d0 := P1.out.t0
        have d1 := P1.out.t1
        have e0 := P2.out.t0
        have e1 := P2.out.t1
        obtain ⟨k0, k1, k2, k3, k4, _⟩ := HCE.out _ P1.out.a.bw
        obtain ⟨l0, l1, l2, l3, l4, _⟩ := HCE.out _ P2.out.a.bw
        have HNEW := Lib.hid (st.out.a.t.nt_new (Nat.le_refl _)).nb
        have HZ2 : Hid ((wr.alloc (.cells #[.slice none 0 0, .slice none 0 0] 29)).drew.cell? ⟨wr.heap.size, 0, none⟩ = some (.slice none 0 0) ∧ (wr.alloc (.cells #[.slice none 0 0, .slice none 0 0] 29)).drew.cell? ⟨wr.heap.size, 1, none⟩ = some (.slice none 0 0) ∧ ∀ i, (wr.alloc (.cells #[.slice none 0 0, .slice none 0 0] 29)).drew.frozen? ⟨wr.heap.size, i, none⟩ = false) := ⟨(new_cell rfl rfl : (wr.alloc (.cells #[.slice none 0 0, .slice none 0 0] 29)).cell? ⟨wr.heap.size, 0, none⟩ = some (.slice none 0 0)), (new_cell rfl rfl : (wr.alloc (.cells #[.slice none 0 0, .slice none 0 0] 29)).cell? ⟨wr.heap.size, 1, none⟩ = some (.slice none 0 0)), fun i => World.frozen?_alloc_at _ _ _ _ rfl⟩
        clear hlt
        go_upto_region 8 with fail
        go_cut [10, 11] from 32 to 41 (fun v10 v11 wx => ∃ (M n' : Nat) (s' : Lk) (vh' vl' : Value) (H' L' : List Wc), v10 = .pointer (some ⟨M, 0, none⟩) ∧ v11 = .bool true ∧ Hid (wx.cell? ⟨M, 0, none⟩ = some vh' ∧ wx.cell? ⟨M, 1, none⟩ = some vl') ∧ Hid (AcN w0 wx T ml mh mw n' s' (j + 1)) ∧ Hid (MdN wx T s' vh' vl' H' L' (j + 1)) ∧ Hid (wx.cell? ⟨N, 0, none⟩ = some (.slice aH H.length cH) ∧ wx.cell? ⟨N, 1, none⟩ = some (.slice aL L.length cL) ∧ (∀ i, wx.frozen? ⟨N, i, none⟩ = false) ∧ Nb s' T N))
        case first =>
          go_region_law (first
            | (go_simp; go_at_call 10; (with_reducible refine (KD.out _ HB1.out).mono ?_); rintro e w5 ⟨vh5, vl5, H5, L5, n5, s5, rfl, ha5, hm5, hf5⟩; have N5 := Lib.hid (show w5.cell? ⟨N, 0, none⟩ = some (.slice aH H.length cH) ∧ w5.cell? ⟨N, 1, none⟩ = some (.slice aL L.length cL) ∧ (∀ i, w5.frozen? ⟨N, i, none⟩ = false) ∧ Nb s5 T N from ⟨hf5.cell st.out.nb (by simp) P1.out.t0, hf5.cell st.out.nb (by simp) P1.out.t1, fun i => (hf5.frozen st.out.nb ⟨0, _, P1.out.t0⟩ (by simp) i).trans (P1.out.f i), (hf5 N st.out.nb ⟨0, _, P1.out.t0⟩ (by simp)).2⟩); obtain ⟨ah5, ch5, hv5, _⟩ := hm5.q1.form; obtain ⟨al5, cl5, hv6, _⟩ := hm5.q2.form; have A5 := Lib.hid ha5; have M5 := Lib.hid hm5; subst hv5 hv6; clear ha5 hm5 hf5; go_simp)
            | (go_simp; go_at_call 10; (with_reducible refine (KD.out _ HB2.out).mono ?_); rintro e w5 ⟨vh5, vl5, H5, L5, n5, s5, rfl, ha5, hm5, hf5⟩; have N5 := Lib.hid (show w5.cell? ⟨N, 0, none⟩ = some (.slice aH H.length cH) ∧ w5.cell? ⟨N, 1, none⟩ = some (.slice aL L.length cL) ∧ (∀ i, w5.frozen? ⟨N, i, none⟩ = false) ∧ Nb s5 T N from ⟨hf5.cell st.out.nb (by simp) P2.out.t0, hf5.cell st.out.nb (by simp) P2.out.t1, fun i => (hf5.frozen st.out.nb ⟨0, _, P2.out.t0⟩ (by simp) i).trans (P2.out.f i), (hf5 N st.out.nb ⟨0, _, P2.out.t0⟩ (by simp)).2⟩); obtain ⟨ah5, ch5, hv5, _⟩ := hm5.q1.form; obtain ⟨al5, cl5, hv6, _⟩ := hm5.q2.form; have A5 := Lib.hid ha5; have M5 := Lib.hid hm5; have z0 := hf5.cell HNEW.out (by simp) HZ2.out.1; have z1 := hf5.cell HNEW.out (by simp) HZ2.out.2.1; have zf : ∀ i, w5.frozen? ⟨wr.heap.size, i, none⟩ = false := (fun i => (hf5.frozen HNEW.out ⟨0, _, HZ2.out.1⟩ (by simp) i).trans (HZ2.out.2.2 i)); have NB5 := Lib.hid (hf5 wr.heap.size HNEW.out ⟨0, _, HZ2.out.1⟩ (by simp)).2; subst hv5 hv6; have y1 : (w5.setCell ⟨wr.heap.size, 0, none⟩ (.slice ah5 H5.length ch5)).cell? ⟨wr.heap.size, 1, none⟩ = some (.slice none 0 0) := sc_ne z1 (.inr (by decide)); have yf : ∀ i, (w5.setCell ⟨wr.heap.size, 0, none⟩ (.slice ah5 H5.length ch5)).frozen? ⟨wr.heap.size, i, none⟩ = false := (fun i => by rw [World.frozen?_setCell]; exact zf i); clear ha5 hm5 hf5; go_simp))
          all_goals
            go_wp2_with fail
            go_meet
            first
              | exact ⟨_, _, _, _, _, _, _, rfl, rfl, ⟨new_cell rfl rfl, new_cell rfl rfl⟩, A5.out.below ((Below.refl _ _).alloc (Nat.le_refl _) _), M5.out.below ((Below.refl _ _).alloc (Nat.le_refl _) _), ⟨keep_cell ((Below.refl _ _).alloc (Nat.le_refl _) _) N5.out.1, keep_cell ((Below.refl _ _).alloc (Nat.le_refl _) _) N5.out.2.1, fun i => (((Below.refl _ _).alloc (Nat.le_refl _) _).frozen (by have : N < w5.heap.size := block_lt (p := ⟨N, 0, none⟩) N5.out.1; exact this)).trans (N5.out.2.2.1 i), N5.out.2.2.2⟩⟩
              | (have hNW : N < wr.heap.size := block_lt (p := ⟨N, 0, none⟩) st.out.t0
                 have hBw : w0.heap.size ≤ wr.heap.size := st.out.a.bw.size
                 have n1 : 0 < H5.length → ∀ g, (Value.slice ah5 H5.length ch5).ownBlock = some g → g ≠ wr.heap.size := fun hl => rowq_ne M5.out.q1 hl z0
                 have n2 : 0 < L5.length → ∀ g, (Value.slice al5 L5.length cl5).ownBlock = some g → g ≠ wr.heap.size := fun hl => rowq_ne M5.out.q2 hl z0
                 have q0 : (w5.setCell ⟨wr.heap.size, 0, none⟩ (.slice ah5 H5.length ch5)).cell? ⟨wr.heap.size, 0, none⟩ = some (.slice ah5 H5.length ch5) := sc_eq z0
                 exact ⟨wr.heap.size, n5, s5, _, _, H5, L5, rfl, rfl, ⟨sc_ne q0 (.inr (by decide)), sc_eq y1⟩, (A5.out.setC NB5.out ⟨_, z0⟩ hBw 0 _).setC NB5.out ⟨_, q0⟩ hBw 1 _, (M5.out.setC 0 _ n1 n2).setC 1 _ n1 n2, ⟨sc_ne (sc_ne N5.out.1 (.inl (by omega))) (.inl (by omega)), sc_ne (sc_ne N5.out.2.1 (.inl (by omega))) (.inl (by omega)), fun i => by rw [World.frozen?_setCell, World.frozen?_setCell]; exact N5.out.2.2.1 i, N5.out.2.2.2⟩⟩)
        case rest =>
        obtain ⟨M, n2, s2, vh2, vl2, H2, L2, rfl, rfl, hm2, ha2, hd2, hn2⟩ := hcut
        rename World => wx
        obtain ⟨ah2, ch2, hv5, _⟩ := hd2.out.q1.form
        obtain ⟨al2, cl2, hv6, _⟩ := hd2.out.q2.form
        subst hv5 hv6
        obtain ⟨g0, g1⟩ := hm2.out
        obtain ⟨x0, x1, xf, hnb⟩ := hn2.out
        have y1 : (wx.setCell ⟨N, 0, none⟩ (.slice ah2 H2.length ch2)).cell? ⟨N, 1, none⟩ = some (.slice aL L.length cL) := sc_ne x1 (.inr (by decide))
        have yf : ∀ i, (wx.setCell ⟨N, 0, none⟩ (.slice ah2 H2.length ch2)).frozen? ⟨N, i, none⟩ = false := fun i => by rw [World.frozen?_setCell]; exact xf i
        have HP9 : Hid (PlN w0 ((wx.setCell ⟨N, 0, none⟩ (.slice ah2 H2.length ch2)).setCell ⟨N, 1, none⟩ (.slice al2 L2.length cl2)) T ml mh mw n2 s2 (j + 1) N (.slice ah2 H2.length ch2) (.slice al2 L2.length cl2) H2 L2) := by
          have hB := st.out.nB
          have A1 := ha2.out.setC hnb ⟨_, x0⟩ hB 0 (.slice ah2 H2.length ch2)
          have y0 : (wx.setCell ⟨N, 0, none⟩ (.slice ah2 H2.length ch2)).cell? ⟨N, 0, none⟩ = some (.slice ah2 H2.length ch2) := sc_eq x0
          have A2 := A1.setC hnb ⟨_, y0⟩ hB 1 (.slice al2 L2.length cl2)
          have n1 : 0 < H2.length → ∀ g, (Value.slice ah2 H2.length ch2).ownBlock = some g → g ≠ N := fun hl => rowq_ne hd2.out.q1 hl x0
          have n2 : 0 < L2.length → ∀ g, (Value.slice al2 L2.length cl2).ownBlock = some g → g ≠ N := fun hl => rowq_ne hd2.out.q2 hl x0
          exact ⟨A2, (hd2.out.setC 0 _ n1 n2).setC 1 _ n1 n2, sc_ne y0 (.inr (by decide)), sc_eq y1, fun i => by rw [World.frozen?_setCell]; exact yf i, hnb, hB⟩
        clear hm2 ha2 hd2 hn2 hnb KD HB1 HB2 P1 P2 HNEW HZ2 d0 d1 e0 e1 k0 k1 k2 k3 k4 l0 l1 l2 l3 l4 st
        go_upto_region 10 with fail
        generalize (wx.setCell ⟨N, 0, none⟩ (.slice ah2 H2.length ch2)).setCell ⟨N, 1, none⟩ (.slice al2 L2.length cl2) = wy at *
        clear g0 g1 x0 x1 xf y1 yf
        have HBZ0 : Hid (Below wy.heap.size wy wy.drew) := (Below.refl _ _).drew
        have PD := Lib.hid (HP9.out.below HBZ0.out)
        clear HP9
        have HSX : Hid (∀ X, Below wy.drew.heap.size wy.drew X → ((fun w' => w'.cell? ⟨N, 0, none⟩ = some (.slice ah2 H2.length ch2) ∧ w'.cell? ⟨N, 1, none⟩ = some (.slice al2 L2.length cl2) ∧ w'.cell? ⟨b2, off2 + j * 5 + 1, none⟩ = some (.int .i64 x.own) ∧ w'.cell? ⟨b2, off2 + j * 5 + 2, none⟩ = some (.string x.key)) X)) := fun X hX => by
          have hp := PD.out.below hX
          obtain ⟨_, k1, k2, _⟩ := HCE.out X hp.a.bw
          exact ⟨hp.t0, hp.t1, k1, k2⟩
        have KL1 : Hid (∀ X, Below wy.drew.heap.size wy.drew X → Calls Try.prog 11 #[.pointer (some ⟨T, 0, none⟩), .agg #[.slice ah2 H2.length ch2, .slice al2 L2.length cl2], .int .i64 owner, .string key] X fun e W' => e = .returned (.bool true) ∧ Below X.heap.size X W') := fun X hX => looks_any (cH := ch2) (cL := cl2) ((PD.out.below hX).looks (by have := HJ.out; omega)) HWF.out (by have := HKS.out; omega)
        have KL2 : Hid (∀ X, Below wy.drew.heap.size wy.drew X → Calls Try.prog 11 #[.pointer (some ⟨T, 0, none⟩), .agg #[.slice ah2 H2.length ch2, .slice al2 L2.length cl2], .int .i64 x.own, .string x.key] X fun e W' => e = .returned (.bool true) ∧ Below X.heap.size X W') := fun X hX => looks_any (cH := ch2) (cL := cl2) ((PD.out.below hX).looks (by have := HJ.out; omega)) (HCE.out X (PD.out.below hX).a.bw).2.2.2.2.2.ow (by have := HBIG.out.1; omega)
        have HBZ : Hid (Below wy.drew.heap.size wy.drew wy.drew) := Below.refl _ _
        refine wp_region_held_drew (S := (fun w' => w'.cell? ⟨N, 0, none⟩ = some (.slice ah2 H2.length ch2) ∧ w'.cell? ⟨N, 1, none⟩ = some (.slice al2 L2.length cl2) ∧ w'.cell? ⟨b2, off2 + j * 5 + 1, none⟩ = some (.int .i64 x.own) ∧ w'.cell? ⟨b2, off2 + j * 5 + 2, none⟩ = some (.string x.key))) (by kernel_rfl) ?_ (fun hHeld => ?_)
        · (try dsimp only); (first | exact HSX.out _ HBB.out | exact HSX.out _ HBA.out | exact HSX.out _ HBZ.out)
        refine wpAnyH_take (i := 0) (oi := { dst := some 43, op := Op.move (Operand.tmp 11), type := 4, pos := "law.go:94", after := #[], guard := none }) (v := ?_) rfl (by kernel_rfl) (by kernel_rfl) (by kernel_rfl) (fun _ _ _ h => h) (Or.inl ⟨by rfl, ?_⟩) (by assumption) ?_
        rotate_left 1
        · (intro w' hSw; (try obtain ⟨s0, s1, s2, s3⟩ := hSw); go_simp; try (with_reducible rfl))
        try simp only [Act.put, List.setIfInBounds_toArray, List.set_cons_zero, List.set_cons_succ]
        refine wpAnyH_take (i := 1) (oi := { dst := some 44, op := Op.unOp UnOp.not 4 (Operand.tmp 43), type := 4, pos := "law.go:94", after := #[{ on := 0, ground := Ground.data }], guard := none }) (v := ?_) rfl (by kernel_rfl) (by kernel_rfl) (by kernel_rfl) (fun _ _ _ h => h) (Or.inl ⟨by rfl, ?_⟩) (by assumption) ?_
        rotate_left 1
        · (intro w' hSw; (try obtain ⟨s0, s1, s2, s3⟩ := hSw); go_simp; try (with_reducible rfl))
        try simp only [Act.put, List.setIfInBounds_toArray, List.set_cons_zero, List.set_cons_succ]
        refine wpAnyH_take (i := 2) (oi := { dst := some 45, op := Op.move (Operand.tmp 44), type := 4, pos := "law.go:94", after := #[{ on := 1, ground := Ground.data }], guard := none }) (v := ?_) rfl (by kernel_rfl) (by kernel_rfl) (by kernel_rfl) (fun _ _ _ h => h) (Or.inl ⟨by rfl, ?_⟩) (by assumption) ?_
        rotate_left 1
        · (intro w' hSw; (try obtain ⟨s0, s1, s2, s3⟩ := hSw); go_simp; try (with_reducible rfl))
        try simp only [Act.put, List.setIfInBounds_toArray, List.set_cons_zero, List.set_cons_succ]
        refine wpAnyH_take (i := 3) (oi := { dst := some 46, op := Op.move (Operand.tmp 7), type := 25, pos := "law.go:94", after := #[{ on := 2, ground := Ground.guard }], guard := some (2, false) }) (v := ?_) rfl (by kernel_rfl) (by kernel_rfl) (by kernel_rfl) (fun _ _ _ h => h) (Or.inl ⟨by rfl, ?_⟩) (by assumption) ?_
        rotate_left 1
        · (intro w' hSw; (try obtain ⟨s0, s1, s2, s3⟩ := hSw); go_simp; try (with_reducible rfl))
        try simp only [Act.put, List.setIfInBounds_toArray, List.set_cons_zero, List.set_cons_succ]
        refine wpAnyH_take (i := 4) (oi := { dst := some 47, op := Op.load 29 (Operand.tmp 8), type := 29, pos := "law.go:94", after := #[{ on := 2, ground := Ground.guard }], guard := some (2, false) }) (v := ?_) rfl (by kernel_rfl) (by kernel_rfl) (by kernel_rfl) (fun _ _ _ h => h) (Or.inl ⟨by rfl, ?_⟩) (by assumption) ?_
        rotate_left 1
        · (intro w' hSw; (try obtain ⟨s0, s1, s2, s3⟩ := hSw); go_simp; try (with_reducible rfl))
        try simp only [Act.put, List.setIfInBounds_toArray, List.set_cons_zero, List.set_cons_succ]
        refine wpAnyH_take (i := 5) (oi := { dst := some 48, op := Op.move (Operand.tmp 1), type := 3, pos := "law.go:94", after := #[{ on := 2, ground := Ground.guard }], guard := some (2, false) }) (v := ?_) rfl (by kernel_rfl) (by kernel_rfl) (by kernel_rfl) (fun _ _ _ h => h) (Or.inl ⟨by rfl, ?_⟩) (by assumption) ?_
        rotate_left 1
        · (intro w' hSw; (try obtain ⟨s0, s1, s2, s3⟩ := hSw); go_simp; try (with_reducible rfl))
        try simp only [Act.put, List.setIfInBounds_toArray, List.set_cons_zero, List.set_cons_succ]
        refine wpAnyH_take (i := 6) (oi := { dst := some 49, op := Op.move (Operand.tmp 2), type := 9, pos := "law.go:94", after := #[{ on := 2, ground := Ground.guard }], guard := some (2, false) }) (v := ?_) rfl (by kernel_rfl) (by kernel_rfl) (by kernel_rfl) (fun _ _ _ h => h) (Or.inl ⟨by rfl, ?_⟩) (by assumption) ?_
        rotate_left 1
        · (intro w' hSw; (try obtain ⟨s0, s1, s2, s3⟩ := hSw); go_simp; try (with_reducible rfl))
        try simp only [Act.put, List.setIfInBounds_toArray, List.set_cons_zero, List.set_cons_succ]
        refine wpAnyH_ready (rs := [7]) (by kernel_rfl) (by simp) ?_
        refine (AllReadyH.cons rfl (fun K hK => ?_) AllReadyH.nil)
        · skip
          go_simp
          refine (KL1.out _ HBZ.out).mono ?_
          rintro e wA ⟨rfl, hbA⟩
          have HBA := Lib.hid hbA
          clear hbA
          clear hHeld
          refine hK.out _ _ ?_ (fun hHeld => ?_)
          · (try dsimp only); (first | exact HSX.out _ HBB.out | exact HSX.out _ HBA.out | exact HSX.out _ HBZ.out)
          clear hK K
          refine wpAnyH_take (i := 8) (oi := { dst := some 51, op := Op.unOp UnOp.not 4 (Operand.tmp 50), type := 4, pos := "law.go:94", after := #[{ on := 7, ground := Ground.data }, { on := 2, ground := Ground.guard }], guard := some (2, false) }) (v := ?_) rfl (by kernel_rfl) (by kernel_rfl) (by kernel_rfl) (fun _ _ _ h => h) (Or.inl ⟨by rfl, ?_⟩) (by assumption) ?_
          rotate_left 1
          · (intro w' hSw; (try obtain ⟨s0, s1, s2, s3⟩ := hSw); go_simp; try (with_reducible rfl))
          try simp only [Act.put, List.setIfInBounds_toArray, List.set_cons_zero, List.set_cons_succ]
          refine wpAnyH_take (i := 9) (oi := { dst := some 52, op := Op.pick (Operand.tmp 45) (Operand.const (Value.bool true)) (Operand.tmp 51), type := 4, pos := "law.go:94", after := #[{ on := 2, ground := Ground.data }, { on := 8, ground := Ground.data }], guard := none }) (v := ?_) rfl (by kernel_rfl) (by kernel_rfl) (by kernel_rfl) (fun _ _ _ h => h) (Or.inl ⟨by rfl, ?_⟩) (by assumption) ?_
          rotate_left 1
          · (intro w' hSw; (try obtain ⟨s0, s1, s2, s3⟩ := hSw); go_simp; try (with_reducible rfl))
          try simp only [Act.put, List.setIfInBounds_toArray, List.set_cons_zero, List.set_cons_succ]
          refine wpAnyH_take (i := 10) (oi := { dst := some 53, op := Op.move (Operand.tmp 52), type := 4, pos := "law.go:94", after := #[{ on := 9, ground := Ground.data }, { on := 7, ground := Ground.chain }], guard := none }) (v := ?_) rfl (by kernel_rfl) (by kernel_rfl) (by kernel_rfl) (fun _ _ _ h => h) (Or.inl ⟨by rfl, ?_⟩) (by assumption) ?_
          rotate_left 1
          · (intro w' hSw; (try obtain ⟨s0, s1, s2, s3⟩ := hSw); go_simp; try (with_reducible rfl))
          try simp only [Act.put, List.setIfInBounds_toArray, List.set_cons_zero, List.set_cons_succ]
          refine wpAnyH_take (i := 11) (oi := { dst := some 54, op := Op.move (Operand.tmp 7), type := 25, pos := "law.go:94", after := #[{ on := 10, ground := Ground.guard }], guard := some (10, false) }) (v := ?_) rfl (by kernel_rfl) (by kernel_rfl) (by kernel_rfl) (fun _ _ _ h => h) (Or.inl ⟨by rfl, ?_⟩) (by assumption) ?_
          rotate_left 1
          · (intro w' hSw; (try obtain ⟨s0, s1, s2, s3⟩ := hSw); go_simp; try (with_reducible rfl))
          try simp only [Act.put, List.setIfInBounds_toArray, List.set_cons_zero, List.set_cons_succ]
          refine wpAnyH_take (i := 12) (oi := { dst := some 55, op := Op.load 29 (Operand.tmp 8), type := 29, pos := "law.go:94", after := #[{ on := 10, ground := Ground.guard }], guard := some (10, false) }) (v := ?_) rfl (by kernel_rfl) (by kernel_rfl) (by kernel_rfl) (fun _ _ _ h => h) (Or.inl ⟨by rfl, ?_⟩) (by assumption) ?_
          rotate_left 1
          · (intro w' hSw; (try obtain ⟨s0, s1, s2, s3⟩ := hSw); go_simp; try (with_reducible rfl))
          try simp only [Act.put, List.setIfInBounds_toArray, List.set_cons_zero, List.set_cons_succ]
          refine wpAnyH_take (i := 13) (oi := { dst := some 56, op := Op.move (Operand.tmp 0), type := 22, pos := "law.go:94", after := #[{ on := 10, ground := Ground.guard }], guard := some (10, false) }) (v := ?_) rfl (by kernel_rfl) (by kernel_rfl) (by kernel_rfl) (fun _ _ _ h => h) (Or.inl ⟨by rfl, ?_⟩) (by assumption) ?_
          rotate_left 1
          · (intro w' hSw; (try obtain ⟨s0, s1, s2, s3⟩ := hSw); go_simp; try (with_reducible rfl))
          try simp only [Act.put, List.setIfInBounds_toArray, List.set_cons_zero, List.set_cons_succ]
          refine wpAnyH_take (i := 14) (oi := { dst := some 57, op := Op.move (Operand.tmp 9), type := 3, pos := "law.go:94", after := #[{ on := 10, ground := Ground.guard }], guard := some (10, false) }) (v := ?_) rfl (by kernel_rfl) (by kernel_rfl) (by kernel_rfl) (fun _ _ _ h => h) (Or.inl ⟨by rfl, ?_⟩) (by assumption) ?_
          rotate_left 1
          · (intro w' hSw; (try obtain ⟨s0, s1, s2, s3⟩ := hSw); go_simp; try (with_reducible rfl))
          try simp only [Act.put, List.setIfInBounds_toArray, List.set_cons_zero, List.set_cons_succ]
          refine wpAnyH_take (i := 15) (oi := { dst := some 58, op := Op.indexAddr 22 (Operand.tmp 56) (Operand.tmp 57), type := 0, pos := "law.go:94", after := #[{ on := 13, ground := Ground.data }, { on := 14, ground := Ground.data }, { on := 10, ground := Ground.guard }], guard := some (10, false) }) (v := ?_) rfl (by kernel_rfl) (by kernel_rfl) (by kernel_rfl) (fun _ _ _ h => h) (Or.inl ⟨by rfl, ?_⟩) (by assumption) ?_
          rotate_left 1
          · (intro w' hSw; (try obtain ⟨s0, s1, s2, s3⟩ := hSw); go_simp; try (with_reducible rfl))
          try simp only [Act.put, List.setIfInBounds_toArray, List.set_cons_zero, List.set_cons_succ]
          refine wpAnyH_take (i := 16) (oi := { dst := some 59, op := Op.fieldAddr 34 (Operand.tmp 58) 1, type := 0, pos := "law.go:94", after := #[{ on := 15, ground := Ground.data }, { on := 10, ground := Ground.guard }], guard := some (10, false) }) (v := ?_) rfl (by kernel_rfl) (by kernel_rfl) (by kernel_rfl) (fun _ _ _ h => h) (Or.inl ⟨by rfl, ?_⟩) (by assumption) ?_
          rotate_left 1
          · (intro w' hSw; (try obtain ⟨s0, s1, s2, s3⟩ := hSw); go_simp; try (with_reducible rfl))
          try simp only [Act.put, List.setIfInBounds_toArray, List.set_cons_zero, List.set_cons_succ]
          refine wpAnyH_take (i := 17) (oi := { dst := some 60, op := Op.load 3 (Operand.tmp 59), type := 3, pos := "law.go:94", after := #[{ on := 16, ground := Ground.data }, { on := 10, ground := Ground.guard }], guard := some (10, false) }) (v := ?_) rfl (by kernel_rfl) (by kernel_rfl) (by kernel_rfl) (fun _ _ _ h => h) (Or.inl ⟨by rfl, ?_⟩) (by assumption) ?_
          rotate_left 1
          · (intro w' hSw; (try obtain ⟨s0, s1, s2, s3⟩ := hSw); go_simp; try (with_reducible rfl))
          try simp only [Act.put, List.setIfInBounds_toArray, List.set_cons_zero, List.set_cons_succ]
          refine wpAnyH_take (i := 18) (oi := { dst := some 61, op := Op.move (Operand.tmp 0), type := 22, pos := "law.go:94", after := #[{ on := 10, ground := Ground.guard }], guard := some (10, false) }) (v := ?_) rfl (by kernel_rfl) (by kernel_rfl) (by kernel_rfl) (fun _ _ _ h => h) (Or.inl ⟨by rfl, ?_⟩) (by assumption) ?_
          rotate_left 1
          · (intro w' hSw; (try obtain ⟨s0, s1, s2, s3⟩ := hSw); go_simp; try (with_reducible rfl))
          try simp only [Act.put, List.setIfInBounds_toArray, List.set_cons_zero, List.set_cons_succ]
          refine wpAnyH_take (i := 19) (oi := { dst := some 62, op := Op.move (Operand.tmp 9), type := 3, pos := "law.go:94", after := #[{ on := 10, ground := Ground.guard }], guard := some (10, false) }) (v := ?_) rfl (by kernel_rfl) (by kernel_rfl) (by kernel_rfl) (fun _ _ _ h => h) (Or.inl ⟨by rfl, ?_⟩) (by assumption) ?_
          rotate_left 1
          · (intro w' hSw; (try obtain ⟨s0, s1, s2, s3⟩ := hSw); go_simp; try (with_reducible rfl))
          try simp only [Act.put, List.setIfInBounds_toArray, List.set_cons_zero, List.set_cons_succ]
          refine wpAnyH_take (i := 20) (oi := { dst := some 63, op := Op.indexAddr 22 (Operand.tmp 61) (Operand.tmp 62), type := 0, pos := "law.go:94", after := #[{ on := 18, ground := Ground.data }, { on := 19, ground := Ground.data }, { on := 10, ground := Ground.guard }], guard := some (10, false) }) (v := ?_) rfl (by kernel_rfl) (by kernel_rfl) (by kernel_rfl) (fun _ _ _ h => h) (Or.inl ⟨by rfl, ?_⟩) (by assumption) ?_
          rotate_left 1
          · (intro w' hSw; (try obtain ⟨s0, s1, s2, s3⟩ := hSw); go_simp; try (with_reducible rfl))
          try simp only [Act.put, List.setIfInBounds_toArray, List.set_cons_zero, List.set_cons_succ]
          refine wpAnyH_take (i := 21) (oi := { dst := some 64, op := Op.fieldAddr 34 (Operand.tmp 63) 2, type := 0, pos := "law.go:94", after := #[{ on := 20, ground := Ground.data }, { on := 10, ground := Ground.guard }], guard := some (10, false) }) (v := ?_) rfl (by kernel_rfl) (by kernel_rfl) (by kernel_rfl) (fun _ _ _ h => h) (Or.inl ⟨by rfl, ?_⟩) (by assumption) ?_
          rotate_left 1
          · (intro w' hSw; (try obtain ⟨s0, s1, s2, s3⟩ := hSw); go_simp; try (with_reducible rfl))
          try simp only [Act.put, List.setIfInBounds_toArray, List.set_cons_zero, List.set_cons_succ]
          refine wpAnyH_take (i := 22) (oi := { dst := some 65, op := Op.load 9 (Operand.tmp 64), type := 9, pos := "law.go:94", after := #[{ on := 21, ground := Ground.data }, { on := 10, ground := Ground.guard }], guard := some (10, false) }) (v := ?_) rfl (by kernel_rfl) (by kernel_rfl) (by kernel_rfl) (fun _ _ _ h => h) (Or.inl ⟨by rfl, ?_⟩) (by assumption) ?_
          rotate_left 1
          · (intro w' hSw; (try obtain ⟨s0, s1, s2, s3⟩ := hSw); go_simp; try (with_reducible rfl))
          try simp only [Act.put, List.setIfInBounds_toArray, List.set_cons_zero, List.set_cons_succ]
          refine wpAnyH_ready (rs := [23]) (by kernel_rfl) (by simp) ?_
          refine (AllReadyH.cons rfl (fun K hK => ?_) AllReadyH.nil)
          · skip
            go_simp
            refine (KL2.out _ HBA.out).mono ?_
            rintro e wB ⟨rfl, hbB⟩
            have HBB := Lib.hid (HBA.out.trans (hbB.mono HBA.out.size))
            clear hbB
            clear hHeld
            refine hK.out _ _ ?_ (fun hHeld => ?_)
            · (try dsimp only); (first | exact HSX.out _ HBB.out | exact HSX.out _ HBA.out | exact HSX.out _ HBZ.out)
            clear hK K
            refine wpAnyH_take (i := 24) (oi := { dst := some 67, op := Op.unOp UnOp.not 4 (Operand.tmp 66), type := 4, pos := "law.go:94", after := #[{ on := 23, ground := Ground.data }, { on := 10, ground := Ground.guard }], guard := some (10, false) }) (v := ?_) rfl (by kernel_rfl) (by kernel_rfl) (by kernel_rfl) (fun _ _ _ h => h) (Or.inl ⟨by rfl, ?_⟩) (by assumption) ?_
            rotate_left 1
            · (intro w' hSw; (try obtain ⟨s0, s1, s2, s3⟩ := hSw); go_simp; try (with_reducible rfl))
            try simp only [Act.put, List.setIfInBounds_toArray, List.set_cons_zero, List.set_cons_succ]
            refine wpAnyH_take (i := 25) (oi := { dst := some 68, op := Op.pick (Operand.tmp 53) (Operand.const (Value.bool true)) (Operand.tmp 67), type := 4, pos := "law.go:94", after := #[{ on := 10, ground := Ground.data }, { on := 24, ground := Ground.data }], guard := none }) (v := ?_) rfl (by kernel_rfl) (by kernel_rfl) (by kernel_rfl) (fun _ _ _ h => h) (Or.inl ⟨by rfl, ?_⟩) (by assumption) ?_
            rotate_left 1
            · (intro w' hSw; (try obtain ⟨s0, s1, s2, s3⟩ := hSw); go_simp; try (with_reducible rfl))
            try simp only [Act.put, List.setIfInBounds_toArray, List.set_cons_zero, List.set_cons_succ]
            refine wpAnyH_done (by kernel_rfl) ?_ _
            clear hHeld
            have PE := Lib.hid (PD.out.below HBB.out)
            go_wp2
            go_roundw
            case rel => exact ⟨j + 1, _, _, _, _, _, _, by go_num, HLT.out, PE⟩
            case measure => simp [intOf]; have := HLT.out; omega
      · obtain rfl : j = l.length := by omega
        have HQ := Lib.hid (HB0.out.trans (st.out.a.bw.mono HB0.out.size))
        clear st
        go_wp2
        go_ret
        exact ⟨rfl, HQ.out⟩
end Go.Proofs.Ytjojempjmpaaaaa
