/-
  THE WALK OF quadrigalaw09.ClockPeeks: it returns true, and writes nothing that was there.
-/
import Derived.Test.YtcdkloohdafbpaaCkAll
import Derived.Deep.RegionHeld3
import Derived.BigQuiet
namespace Go.Proofs.Ytcdkloohdafbpaa
open Go.RowKit
def Six (W : World) (b : Nat) (x : Ac) : Prop :=
  W.cell? ⟨b, 0, none⟩ = some (.int .i64 x.k) ∧ W.cell? ⟨b, 1, none⟩ = some (.int .i64 x.s) ∧ W.cell? ⟨b, 2, none⟩ = some (.int .i64 x.p) ∧ W.cell? ⟨b, 3, none⟩ = some (.int .i64 x.t) ∧ W.cell? ⟨b, 4, none⟩ = some (.int .i64 x.n) ∧ W.cell? ⟨b, 5, none⟩ = some (.slice x.ma x.ml.length x.mc)
theorem Six.below {w w' : World} {b : Nat} {x : Ac} (h : Six w b x) (hb : Below w.heap.size w w') : Six w' b x :=
  have key : ∀ {p : Addr} {v : Value}, w.cell? p = some v → w'.cell? p = some v := fun hc => (hb.cell (block_lt' hc)).trans hc
  ⟨key h.1, key h.2.1, key h.2.2.1, key h.2.2.2.1, key h.2.2.2.2.1, key h.2.2.2.2.2⟩
theorem Six.fr {C S P T : Nat} {w w' : World} {b : Nat} {x : Ac} (h : Six w b x) (hf : Fr C S P T w w') (hC : b ≠ C) (hS : b ≠ S) (hP : b ≠ P) (hT : b ≠ T) : Six w' b x :=
  have key : ∀ {i : Nat} {v : Value}, w.cell? ⟨b, i, none⟩ = some v → w'.cell? ⟨b, i, none⟩ = some v := fun hc => hf.cell hc hC hS hP hT
  ⟨key h.1, key h.2.1, key h.2.2.1, key h.2.2.2.1, key h.2.2.2.2.1, key h.2.2.2.2.2⟩
theorem below_drewN {w W : World} {B : Nat} (h : Below B w W) (n : Nat) : Below B w (W.drewN n) := ⟨h.os, h.tape, h.output, h.size, h.block⟩
theorem CAt.drewN {W : World} {C S P T n k : Nat} {c : Clk} (h : CAt W C S P T n k c) (m : Nat) : CAt (W.drewN m) C S P T n k c := ClockAt.of_blocks h rfl rfl rfl rfl
theorem raise_round {w W : World} {C S P T C' S' P' T' k b : Nat} {c c' : Clk} {x : Ac} (hw : AcOk w x) (cc : CAt W C S P T 4 k c) (dd : CAt W C' S' P' T' 4 k c') (bw : Below w.heap.size w W) (z : Six W b x)
    (hx : ∀ i j, (i = C' ∨ i = S' ∨ i = P' ∨ i = T') → (j = C ∨ j = S ∨ j = P ∨ j = T) → i ≠ j) (hb : b ≠ C ∧ b ≠ S ∧ b ≠ P ∧ b ≠ T) (hB : w.heap.size ≤ C ∧ w.heap.size ≤ S ∧ w.heap.size ≤ P ∧ w.heap.size ≤ T) (r : Int) (hr : r = if okR 4 x.n x.ml then 0 else 1) :
    Calls Try.prog 22 #[.pointer (some ⟨C, 0, none⟩), .int .i64 x.n, .slice x.ma x.ml.length x.mc] W fun e w' => e = .returned (.int .i64 r) ∧
      w'.cell? ⟨b, 0, none⟩ = some (.int .i64 x.k) ∧ w'.cell? ⟨b, 4, none⟩ = some (.int .i64 x.n) ∧ w'.cell? ⟨b, 5, none⟩ = some (.slice x.ma x.ml.length x.mc) ∧
      Hid (CAt w' C S P T 4 k (c.raise 4 x.n x.ml)) ∧ Hid (CAt w' C' S' P' T' 4 k c') ∧ Hid (Below w.heap.size w w') ∧ Hid (Six w' b x) := by
  have hF : ∀ W', Fr C S P T W W' → Below w.heap.size w W' := fun W' hf => bw.trans (hf.below bw.size hB.1 hB.2.1 hB.2.2.1 hB.2.2.2)
  refine (raise_allL cc x.n x.ma x.ml x.mc hw.l hw.z (fun W' hf => hw.a.below (hF W' hf))).mono ?_
  rintro e w' ⟨rfl, hc, hf⟩
  have z' := z.fr hf hb.1 hb.2.1 hb.2.2.1 hb.2.2.2
  exact ⟨by rw [hr], z'.1, z'.2.2.2.2.1, z'.2.2.2.2.2, Lib.hid hc, Lib.hid (ClockAt.other dd hf hx), Lib.hid (hF w' hf), Lib.hid z'⟩
set_option maxRecDepth 100000 in
set_option maxHeartbeats 4000000 in
theorem clockPeeks_walk (a : Option Addr) (L : List Ac) (cap : Nat) (w : World) (hn : L.length ≤ maxLen) (ha : ActsAt w a L) :
    Calls Try.prog 6 #[.slice a L.length cap] w fun e w' => e = .returned (.bool true) ∧ Below w.heap.size w w' := by
  have KG := Lib.hid (great_any a L cap w hn ha)
  have HA := Lib.hid ha
  have HAW := Lib.hid ha; clear ha
  have KA := Lib.hid (fun W (hW : Below w.heap.size w W) => (awake_any W).mono fun e w' h => (⟨h.1, hW.trans (h.2.mono hW.size)⟩ : e = .returned (.bool true) ∧ Below w.heap.size w w'))
  have HB0 : Hid (Below w.heap.size w w) := Below.refl _ _
  unfold maxLen at hn
  cases hg : greatB L with
  | true =>
    rw [hg] at KG
    go_enter Try.func6, Try.ntmps6
    go_wp2_with fail
    refine KG.out.mono ?_
    rintro e w1 ⟨rfl, rfl⟩
    go_wp2_with fail
    refine (KA.out _ HB0.out).mono ?_
    rintro e w1 ⟨rfl, hb⟩
    go_wp2
    go_ret
    exact ⟨rfl, hb⟩
  | false =>
    obtain ⟨h60, h10⟩ := greatB_no hg
    rw [hg] at KG
    clear hg
    have H10 := Lib.hid h10; clear h10
    go_enter Try.func6, Try.ntmps6
    go_wp2_with fail
    refine KG.out.mono ?_
    rintro e w1 ⟨rfl, rfl⟩
    go_wp2_with fail
    refine (KA.out _ HB0.out).mono ?_
    rintro e w1 ⟨rfl, hb⟩
    have HB1 := Lib.hid hb; clear hb HB0 KG
    go_wp2_with fail
    refine (new_all 4 w1 (by omega) (by omega)).mono ?_
    rintro e w2 ⟨C, S, P, T, rfl, hc, hb, q1, q2, q3, q4⟩
    have CC := Lib.hid hc; have HB2 := Lib.hid (HB1.out.trans (hb.mono HB1.out.size)); clear hc
    have s1 := HB1.out.size
    clear HB1 hb
    go_wp2_with fail
    refine (new_all 4 w2 (by omega) (by omega)).mono ?_
    rintro e w3 ⟨C', S', P', T', rfl, hc, hb, p1, p2, p3, p4⟩
    have DD := Lib.hid hc; clear hc
    have CC2 := Lib.hid (CC.out.below hb)
    obtain ⟨l1, l2, l3, l4⟩ := ClockAt.lts CC.out
    have HB3 := Lib.hid (HB2.out.trans (hb.mono HB2.out.size)); clear HB2 CC hb
    go_wp2
    go_loopw [5] (fun i wr => ∃ (k : Nat) (c : Clk), k ≤ L.length ∧ i = .int .i64 k ∧ Hid (CAt wr C S P T 4 (2 * k) c) ∧ Hid (CAt wr C' S' P' T' 4 (2 * k) c) ∧ Hid (Below w.heap.size w wr)) (fun i _ => L.length - (intOf i).toNat)
    case atStart => exact ⟨0, Clk.new 4, Nat.zero_le _, rfl, CC2, DD, HB3⟩
    case round =>
      obtain ⟨k, c, hk, rfl, cc, dd, hbr⟩ := hrel
      have hl63 : L.length ≤ 60 := h60
      clear CC2 DD HB3
      by_cases hlt : k < L.length
      · obtain ⟨b, off, rfl, hcells, hok⟩ := (HA.out.below hbr.out).at hlt
        have OKW := Lib.hid (HAW.out.1 _ (mem_getD hlt))
        have hs6 : Six ((wr.alloc (.cells (L.getD k noAc).cells 34))) wr.heap.size (L.getD k noAc) := by
          refine ⟨?_, ?_, ?_, ?_, ?_, ?_⟩ <;> simp [World.cell?_alloc_at, Ac.cells]
        have S6 := Lib.hid hs6
        have hal : Below wr.heap.size wr (wr.alloc (.cells (L.getD k noAc).cells 34)) := (Below.refl _ _).alloc (Nat.le_refl _) _
        have AL := Lib.hid hal
        clear hs6 hal
        simp only [Ac.cells] at S6 AL
        generalize L.getD k noAc = x at *
        have OK := Lib.hid hok
        obtain ⟨c0, c1, c2, c3, c4, c5⟩ := hcells
        have wp := hok.p
        have wt := hok.t
        clear hok
        have hsz := hbr.out.size
        obtain ⟨m1, m2, m3, m4⟩ := ClockAt.lts cc.out
        obtain ⟨m5, m6, m7, m8⟩ := ClockAt.lts dd.out
        have KP := Lib.hid ((peek_all (cc.out.below AL.out) x.s x.p x.t wp wt).mono fun e w' hh => (⟨hh.1, Lib.hid (AL.out.trans (hh.2.mono AL.out.size)), Lib.hid (S6.out.below hh.2)⟩ : e = .returned (.tuple #[.int .i64 (c.N 4 x.s x.p x.t), .int .i64 (c.E 4 x.s x.p x.t)]) ∧ Hid (Below wr.heap.size wr w') ∧ Hid (Six w' wr.heap.size x)))
        go_wp2_with fail
        refine KP.out.mono ?_
        rintro e w4 ⟨rfl, b4, z4⟩
        clear KP AL S6 c0 c1 c2 c3 c4 c5
        have cc4 := Lib.hid (cc.out.below b4.out)
        have dd4 := Lib.hid (dd.out.below b4.out)
        have bw4 := Lib.hid (hbr.out.trans (b4.out.mono hbr.out.size))
        clear cc dd b4
        obtain ⟨d0, d1, d2, d3, d4, d5⟩ := z4.out
        have KT := Lib.hid ((tick_all cc4.out x.s x.p x.t wp wt (by unfold maxLen; omega)).mono fun e w' hh => (⟨hh.1, Lib.hid hh.2.1, Lib.hid (ClockAt.other dd4.out hh.2.2 (by intro a b ha hb; omega)), Lib.hid (bw4.out.trans (hh.2.2.below bw4.out.size (by omega) (by omega) (by omega) (by omega))), Lib.hid (z4.out.fr hh.2.2 (by omega) (by omega) (by omega) (by omega))⟩ : e = .returned (.tuple #[.int .i64 (c.N 4 x.s x.p x.t), .int .i64 (c.E 4 x.s x.p x.t)]) ∧ Hid (CAt w' C S P T 4 (2 * k + 2) (c.tick 4 x.s x.p x.t)) ∧ Hid (CAt w' C' S' P' T' 4 (2 * k) c) ∧ Hid (Below w.heap.size w w') ∧ Hid (Six w' wr.heap.size x)))
        go_wp2_with fail
        refine KT.out.mono ?_
        rintro e w5 ⟨rfl, cc5, dd5, bw5, z5⟩
        clear KT cc4 dd4 bw4 z4 d0 d1 d2 d3 d4 d5
        obtain ⟨d0, d1, d2, d3, d4, d5⟩ := z5.out
        have KT := Lib.hid ((tick_all dd5.out x.s x.p x.t wp wt (by unfold maxLen; omega)).mono fun e w' hh => (⟨hh.1, Lib.hid hh.2.1, Lib.hid (ClockAt.other cc5.out hh.2.2 (by intro a b ha hb; omega)), Lib.hid (bw5.out.trans (hh.2.2.below bw5.out.size (by omega) (by omega) (by omega) (by omega))), Lib.hid (z5.out.fr hh.2.2 (by omega) (by omega) (by omega) (by omega))⟩ : e = .returned (.tuple #[.int .i64 (c.N 4 x.s x.p x.t), .int .i64 (c.E 4 x.s x.p x.t)]) ∧ Hid (CAt w' C' S' P' T' 4 (2 * k + 2) (c.tick 4 x.s x.p x.t)) ∧ Hid (CAt w' C S P T 4 (2 * k + 2) (c.tick 4 x.s x.p x.t)) ∧ Hid (Below w.heap.size w w') ∧ Hid (Six w' wr.heap.size x)))
        go_wp2_with fail
        refine KT.out.mono ?_
        rintro e w6 ⟨rfl, dd6, cc6, bw6, z6⟩
        clear KT cc5 dd5 bw5 z5 d0 d1 d2 d3 d4 d5
        obtain ⟨d0, d1, d2, d3, d4, d5⟩ := z6.out
        have TC := Lib.hid (top_all cc6.out)
        have TD := Lib.hid (top_all dd6.out)
        go_wp2_with fail
        refine TC.out.mono ?_
        rintro e w7 ⟨rfl, rfl⟩
        go_wp2_with fail
        refine TD.out.mono ?_
        rintro e w7 ⟨rfl, rfl⟩
        clear TC TD
        generalize c.tick 4 x.s x.p x.t = c' at cc6 dd6
        have cc7 := Lib.hid (cc6.out.below ((Below.refl _ _).drew))
        have dd7 := Lib.hid (dd6.out.below ((Below.refl _ _).drew))
        have bw7 : Hid (Below w.heap.size w w6.drew) := bw6.out.drew
        have z7 : Hid (Six w6.drew wr.heap.size x) := z6.out
        obtain ⟨r, hr⟩ : ∃ r : Int, r = if okR 4 x.n x.ml then 0 else 1 := ⟨_, rfl⟩
        have KR1 := Lib.hid (raise_round OKW.out cc7.out dd7.out bw7.out z7.out (by intro a b ha hb; omega) ⟨by omega, by omega, by omega, by omega⟩ ⟨by omega, by omega, by omega, by omega⟩ r hr)
        have KR2 : Hid (∀ W, Hid (CAt W C S P T 4 (2 * k + 2) (c'.raise 4 x.n x.ml)) → Hid (CAt W C' S' P' T' 4 (2 * k + 2) c') → Hid (Below w.heap.size w W) → Hid (Six W wr.heap.size x) → _) := fun W cc dd bw z =>
          raise_round (C := C') (S := S') (P := P') (T := T') (C' := C) (S' := S) (P' := P) (T' := T) OKW.out dd.out cc.out bw.out z.out (by intro a b ha hb; omega) ⟨by omega, by omega, by omega, by omega⟩ ⟨by omega, by omega, by omega, by omega⟩ r hr
        clear hr
        by_cases h3 : x.k = 3
        · have hd : (x.k == 3) = true := by rw [beq_iff_eq]; exact h3
          clear cc6 dd6 bw6 z6
          go_wp2_with fail
          go_region_held3 (fun w' => w'.cell? ⟨wr.heap.size, 0, none⟩ = some (.int .i64 x.k) ∧ w'.cell? ⟨wr.heap.size, 4, none⟩ = some (.int .i64 x.n) ∧ w'.cell? ⟨wr.heap.size, 5, none⟩ = some (.slice x.ma x.ml.length x.mc))
            ((refine ⟨?_, ?_, ?_⟩ <;> (first | with_reducible assumption | (with_reducible refine keep_drew ?_; with_reducible assumption))))
            (first
              | (go_at_call_of 22 (Value.pointer (some ⟨C, 0, none⟩)); refine KR1.out.mono ?_; rintro e w8 ⟨rfl, e0, e4, e5, cc8, dd8, bw8, z8⟩)
              | (go_at_call_of 22 (Value.pointer (some ⟨C', 0, none⟩)); refine (KR2.out _ cc8 dd8 bw8 z8).mono ?_; rintro e w9 ⟨rfl, g0, g4, g5, dd9, cc9, bw9, z9⟩))
          all_goals go_wp2
          go_round
          case rel => exact ⟨k + 1, _, by omega, by go_num, cc9, dd9, bw9⟩
          case measure => simp [intOf]; omega
        · have hd : (x.k == 3) = false := by rw [beq_eq_false_iff_ne]; exact h3
          go_wp2_with fail
          go_quiet (fail)
          go_wp2
          go_round
          case rel => exact ⟨k + 1, c', by omega, by go_num, cc6.out.drewN _, dd6.out.drewN _, below_drewN bw6.out _⟩
          case measure => simp [intOf]; omega
      · go_wp2
        go_ret
        exact ⟨rfl, hbr.out⟩
end Go.Proofs.Ytcdkloohdafbpaa
