/-
  ref14: Ask.
-/
import Derived.Test.YtjojempjmpaaaaaRefm3
namespace Go.Proofs.Ytjojempjmpaaaaa
open Go.RowKit
theorem cl_new (X : World) (c : Wc) : CL (X.alloc (.cells #[.int .i64 c.ow, .string c.k, .bool c.wr] 67)) X.heap.size c ∧ Below X.heap.size X (X.alloc (.cells #[.int .i64 c.ow, .string c.k, .bool c.wr] 67)) :=
  ⟨⟨new_cell rfl rfl, new_cell rfl rfl, new_cell rfl rfl⟩, (Below.refl _ _).alloc (Nat.le_refl _) _⟩
theorem res_fin {X : World} {N : Nat} {vh vl : Value} (r0 : X.cell? ⟨N + 1, 0, none⟩ = some (.slice none 0 0)) (r1 : X.cell? ⟨N + 1, 1, none⟩ = some (.slice none 0 0)) (f1 : ∀ i, X.frozen? ⟨N + 1, i, none⟩ = false) :
    (X.setCell ⟨N + 1, 0, none⟩ vh).cell? ⟨N + 1, 1, none⟩ = some (.slice none 0 0) ∧ (∀ i, (X.setCell ⟨N + 1, 0, none⟩ vh).frozen? ⟨N + 1, i, none⟩ = false) ∧ ((X.setCell ⟨N + 1, 0, none⟩ vh).setCell ⟨N + 1, 1, none⟩ vl).cell? ⟨N + 1, 0, none⟩ = some vh ∧ ((X.setCell ⟨N + 1, 0, none⟩ vh).setCell ⟨N + 1, 1, none⟩ vl).cell? ⟨N + 1, 1, none⟩ = some vl := by
  have z1 : (X.setCell ⟨N + 1, 0, none⟩ vh).cell? ⟨N + 1, 1, none⟩ = some (.slice none 0 0) := sc_ne r1 (.inr (by decide))
  have q0 : (X.setCell ⟨N + 1, 0, none⟩ vh).cell? ⟨N + 1, 0, none⟩ = some vh := sc_eq r0
  exact ⟨z1, fun i => by rw [World.frozen?_setCell]; exact f1 i, sc_ne q0 (.inr (by decide)), sc_eq z1⟩
theorem TR.setL {X : World} {N : Nat} {vh vl : Value} (h : TR X N vh vl) (v : Value) : TR (X.setCell ⟨N, 1, none⟩ v) N vh v :=
  ⟨sc_ne h.t0 (.inr (by decide)), sc_eq h.t1, sc_ne h.r0 (.inl (by omega)), sc_ne h.r1 (.inl (by omega)), fun i => by rw [World.frozen?_setCell]; exact h.f0 i, fun i => by rw [World.frozen?_setCell]; exact h.f1 i, Nat.lt_of_lt_of_le h.sz ((Below.refl N X).setCell (p := ⟨N, 1, none⟩) (Nat.le_refl _) v).size⟩
section
variable {W : World}
set_option maxRecDepth 100000 in
set_option maxHeartbeats 8000000 in
theorem ask14_any (aH : Option Addr) (h : List Wc) (cH : Nat) (aL : Option Addr) (l : List Wc) (cL : Nat) (o : Int) (k : ByteArray) (b : Bool) (hl : h.length ≤ 90000) (hl2 : l.length ≤ 90000) (hm : RowQ W (.slice aH h.length cH) h) (hn : RowQ W (.slice aL l.length cL) l) :
    Calls Try.prog 21 #[tabV aH h cH aL l cL, .int .i64 o, .string k, .bool b] W (AskE W (.slice aH h.length cH) (.slice aL l.length cL) h l o k b) := by
  have HT := Lib.hid (tr_new W (.slice aH h.length cH) (.slice aL l.length cL))
  have hb0 : Below W.heap.size W ((W.alloc (.cells #[.slice aH h.length cH, .slice aL l.length cL] 29)).alloc (.cells #[.slice none 0 0, .slice none 0 0] 29)) := ((Below.refl _ _).alloc (Nat.le_refl _) _).alloc (by rw [World.size_alloc]; omega) _
  have HMW := Lib.hid hm
  have HNW := Lib.hid hn
  have HB := Lib.hid hb0
  have hli : (h.length : Int) ≤ 90000 := by omega
  have hli2 : (l.length : Int) ≤ 90000 := by omega
  clear hm hn hb0
  unfold tabV
  go_enter Try.func21, Try.ntmps21
  go_upto_region 1 with fail
  generalize ((W.alloc (.cells #[.slice aH h.length cH, .slice aL l.length cL] 29)).alloc (.cells #[.slice none 0 0, .slice none 0 0] 29)) = Y at *
  have HMY : Hid (∀ X, Below W.heap.size W X → RowQ X (.slice aH h.length cH) h ∧ WcsAt X aH h) := fun X hX => by
    have h1 := HMW.out.below hX
    obtain ⟨a2, c2, e1, e2⟩ := h1.form
    injection e1 with e3 _ _
    subst e3
    exact ⟨h1, e2⟩
  have HNY : Hid (∀ X, Below W.heap.size W X → RowQ X (.slice aL l.length cL) l ∧ WcsAt X aL l) := fun X hX => by
    have h1 := HNW.out.below hX
    obtain ⟨a2, c2, e1, e2⟩ := h1.form
    injection e1 with e3 _ _
    subst e3
    exact ⟨h1, e2⟩
  clear HMW HNW
  by_cases ho : o < 0
  · have HF := Lib.hid (ask2_1 (H := h) (L := l) (k := k) (b := b) ho)
    obtain ⟨z1, f2, p0, p1⟩ := HT.out.fin
    have x0 := HT.out.t0
    have x1 := HT.out.t1
    have r0 := HT.out.r0
    have f1 := HT.out.f1
    have HRH := Lib.hid (((HMY.out _ (TR.bel (vh := (.slice aH h.length cH)) (vl := (.slice aL l.length cL)) HB.out)).1))
    have HRL := Lib.hid (((HNY.out _ (TR.bel (vh := (.slice aH h.length cH)) (vl := (.slice aL l.length cL)) HB.out)).1))
    have HBF := Lib.hid (TR.bel (vh := (.slice aH h.length cH)) (vl := (.slice aL l.length cL)) HB.out)
    go_wp2
    refine bodyPost_ret (v := .tuple #[.agg #[(.slice aH h.length cH), (.slice aL l.length cL)], .int .i64 1]) ?_ rfl ⟨(.slice aH h.length cH), (.slice aL l.length cL), by rw [HF.out], by rw [HF.out]; exact HRH.out, by rw [HF.out]; exact HRL.out, .inr (.inl rfl), .inr (.inl rfl), HBF.out⟩
    simp only [results, Try.results21]
    go_simp
  have HO : Hid (0 ≤ o) := Int.not_lt.1 ho
  have KW := Lib.hid (waits14_any (W := Y) aH h cH aL l cL o (by omega) (HNY.out Y HB.out).2)
  unfold tabV at KW
  have x0 := HT.out.t0
  have x1 := HT.out.t1
  go_upto_region 3 with fail
  go_wp2_with fail
  refine KW.out.mono ?_
  rintro e w1 ⟨rfl, hb1⟩
  clear KW x0 x1
  have HT1 := Lib.hid (HT.out.below hb1)
  have HB1 := Lib.hid (HB.out.trans (hb1.mono HB.out.size))
  clear hb1
  rcases placeL_cases (isOw o) l with ⟨ep, _⟩ | ⟨i, hi, ep, _, _⟩
  case inr =>
    have HF := Lib.hid (ask2_2 (H := h) (L := l) (k := k) (b := b) (Int.not_lt.2 HO.out) (by rw [ep]; exact Int.natCast_nonneg _))
    rw [ep]
    have hin : (0 : Int) ≤ (i : Int) := Int.natCast_nonneg _
    obtain ⟨z1, f2, p0, p1⟩ := HT1.out.fin
    have x0 := HT1.out.t0
    have x1 := HT1.out.t1
    have r0 := HT1.out.r0
    have f1 := HT1.out.f1
    have HRH := Lib.hid (((HMY.out _ (TR.bel (vh := (.slice aH h.length cH)) (vl := (.slice aL l.length cL)) HB1.out)).1))
    have HRL := Lib.hid (((HNY.out _ (TR.bel (vh := (.slice aH h.length cH)) (vl := (.slice aL l.length cL)) HB1.out)).1))
    have HBF := Lib.hid (TR.bel (vh := (.slice aH h.length cH)) (vl := (.slice aL l.length cL)) HB1.out)
    go_wp2
    refine bodyPost_ret (v := .tuple #[.agg #[(.slice aH h.length cH), (.slice aL l.length cL)], .int .i64 12]) ?_ rfl ⟨(.slice aH h.length cH), (.slice aL l.length cL), by rw [HF.out], by rw [HF.out]; exact HRH.out, by rw [HF.out]; exact HRL.out, .inr (.inl rfl), .inr (.inl rfl), HBF.out⟩
    simp only [results, Try.results21]
    go_simp
  have hpl : placeL (isOw o) l < 0 := by rw [ep]; decide
  have HPL := Lib.hid hpl
  rw [ep]
  obtain ⟨hcl, hbc⟩ := cl_new w1 ⟨k, b, o⟩
  have HCL := Lib.hid hcl
  have HB5 := Lib.hid (HB1.out.trans (hbc.mono HB1.out.size))
  have HT5 := Lib.hid (HT1.out.below hbc)
  clear hcl hbc hpl ep
  go_upto_region 6 with fail
  generalize hM : w1.heap.size = M at *
  generalize w1.alloc (.cells #[.int .i64 o, .string k, .bool b] 67) = Y5 at *
  clear hM HT1 HB1
  have x0 := HT5.out.t0
  have x1 := HT5.out.t1
  have KF := Lib.hid (find_any (W := Y5) aH h cH o k (by omega) (HMY.out Y5 HB5.out).2)
  go_wp2_with fail
  refine KF.out.mono ?_
  rintro e w ⟨rfl, rfl⟩
  clear KF
  rcases findL_cases o k h with ⟨ef, _⟩ | ⟨p, hp, ef, _, _⟩
  case inl =>
    have HOWN := Lib.hid ef
    rw [ef]
    have HLW := Lib.hid (HNY.out Y5 HB5.out).2
    go_wp2
    go_loopw [12, 13] (fun v i wr => ∃ j cnt : Nat, i = .int .i64 (j : Int) ∧ j ≤ l.length ∧ v = .int .i64 (cnt : Int) ∧ cnt ≤ j ∧ Hid (Y5 = wr) ∧ Hid (cnt = ((l.take j).filter (isK k)).length)) (fun _ i _ => l.length - (intOf i).toNat)
    case atStart => exact ⟨0, 0, rfl, Nat.zero_le _, rfl, Nat.le_refl _, rfl, by rw [List.take_zero]; rfl⟩
    case round =>
      obtain ⟨j, cnt, rfl, hj, rfl, hcj, hY, hn⟩ := hrel
      have hY := hY.out
      subst hY
      by_cases hlt : j < l.length
      · obtain ⟨bb, off, rfl, k0, k1, k2⟩ := HLW.out.cell hlt
        have HLT := Lib.hid hlt
        have htk : l.take (j + 1) = l.take j ++ [l[j]] := List.take_succ_eq_append_getElem hlt
        have HNX : Hid (((l.take (j + 1)).filter (isK k)).length = cnt + if l[j].k = k then 1 else 0) := by
          have := hn.out
          show ((l.take (j + 1)).filter (isK k)).length = _
          rw [htk, List.filter_append, List.length_append, ← this]
          by_cases e : l[j].k = k
          · rw [if_pos e, List.filter_cons_of_pos (isK_iff.2 e)]; rfl
          · rw [if_neg e, List.filter_cons_of_neg (fun q => e (isK_iff.1 q))]; rfl
        clear k0 k2 htk hn
        generalize l[j] = x at *
        obtain ⟨xk, xw, xo⟩ := x
        replace k1 : Y5.cell? ⟨bb, off + j * 3 + 1, none⟩ = some (.string xk) := k1
        replace HNX : Hid (((l.take (j + 1)).filter (isK k)).length = cnt + if xk = k then 1 else 0) := HNX
        by_cases hk : xk = k
        · have HN : Hid (cnt + 1 = ((l.take (j + 1)).filter (isK k)).length) := by have := HNX.out; rw [if_pos hk] at this; exact this.symm
          subst hk
          clear HNX
          go_wp2
          go_roundw
          case rel => exact ⟨j + 1, cnt + 1, by go_num, HLT.out, by go_num, by omega, trivial, HN⟩
          case measure => simp [intOf]; have := HLT.out; omega
        · have HN : Hid (cnt = ((l.take (j + 1)).filter (isK k)).length) := by have := HNX.out; rw [if_neg hk] at this; exact this.symm
          have hne := str_ne14 hk
          clear HNX
          go_wp2
          go_roundw
          case rel => exact ⟨j + 1, cnt, by go_num, HLT.out, rfl, by omega, trivial, HN⟩
          case measure => simp [intOf]; have := HLT.out; omega
      · obtain rfl : j = l.length := by omega
        have hcn := hn.out
        rw [List.take_length] at hcn
        have HCN := Lib.hid hcn
        clear hn hcn
        have KR := Lib.hid (free14_any (W := Y5) aH h cH aL l cL ⟨k, b, o⟩ (by omega) (HMY.out Y5 HB5.out).2)
        unfold tabV at KR
        have g0 := HCL.out.c0
        have g1 := HCL.out.c1
        have g2 := HCL.out.c2
        go_upto_region 15 with fail
        go_wp2_with fail
        refine KR.out.mono ?_
        rintro e w6 ⟨rfl, hb6⟩
        have HT6 := Lib.hid (HT5.out.below hb6)
        have HCL6 := Lib.hid (HCL.out.below hb6)
        have HB6 := Lib.hid (HB5.out.trans (hb6.mono HB5.out.size))
        clear KR hb6 g0 g1 g2 x0 x1
        have x0 := HT6.out.t0
        have x1 := HT6.out.t1
        have g0 := HCL6.out.c0
        have g1 := HCL6.out.c1
        have g2 := HCL6.out.c2
        by_cases hfr : freeR h ⟨k, b, o⟩ = true
        · cases hc0 : cnt with
          | zero =>
            subst hc0
            have HF : Hid (ask2 h l o k b = (holdR ⟨k, b, o⟩ h, l, 0)) := (ask2_67 (Int.not_lt.2 HO.out) (Int.not_le.2 HPL.out) HOWN.out).trans (if_pos ⟨hfr, List.length_eq_zero_iff.1 HCN.out.symm⟩)
            rw [hfr]
            have KH := Lib.hid (hold14_any (W := w6) aH h cH aL l cL ⟨k, b, o⟩ hl (HMY.out w6 HB6.out).1)
            unfold tabV at KH
            go_wp2_with fail
            refine KH.out.mono ?_
            rintro e w7 ⟨v, rfl, hr7, hb7⟩
            have HT7 := Lib.hid (HT6.out.below hb7)
            have HB7 := Lib.hid (HB6.out.trans (hb7.mono HB6.out.size))
            obtain ⟨a', c', hv, -⟩ := hr7.form
            have HRH : Hid (RowW ((w7.setCell ⟨W.heap.size + 1, 0, none⟩ v).setCell ⟨W.heap.size + 1, 1, none⟩ (.slice aL l.length cL)) 0 v (holdR ⟨k, b, o⟩ h)) := (TR.row (hr7.mono (Nat.zero_le _)) (fun g e c => by
              have h1 := (World.ownsRow.lt hr7 g e).1
              have h2 := HT6.out.sz
              omega)).mono (Nat.zero_le _)
            have HFR : Hid (v.ownBlock = none ∨ v = (.slice aH h.length cH) ∨ ∃ g, v.ownBlock = some g ∧ W.heap.size ≤ g) := by
              cases e : v.ownBlock with
              | none => exact .inl rfl
              | some g => exact .inr (.inr ⟨g, rfl, Nat.le_trans HB6.out.size (World.ownsRow.lt hr7 g e).1⟩)
            generalize (holdR ⟨k, b, o⟩ h).length = nv at hv
            subst hv
            clear KH hr7 hb7 x0 x1 g0 g1 g2
            have z0 := HT7.out.r0
            have f1 := HT7.out.f1
            obtain ⟨z1, f2, p0, p1⟩ := res_fin (vh := .slice a' nv c') (vl := .slice aL l.length cL) HT7.out.r0 HT7.out.r1 HT7.out.f1
            have HRL := Lib.hid (((HNY.out _ (TR.bel (vh := .slice a' nv c') (vl := .slice aL l.length cL) HB7.out)).1))
            have HBF := Lib.hid (TR.bel (vh := .slice a' nv c') (vl := .slice aL l.length cL) HB7.out)
            go_wp2
            refine bodyPost_ret (v := .tuple #[.agg #[.slice a' nv c', .slice aL l.length cL], .int .i64 0]) ?_ rfl ⟨.slice a' nv c', .slice aL l.length cL, by rw [HF.out], by rw [HF.out]; exact HRH.out.q, by rw [HF.out]; exact HRL.out, HFR.out, .inr (.inl rfl), HBF.out⟩
            simp only [results, Try.results21]
            go_simp
          | succ cm =>
            subst hc0
            have HF : Hid (ask2 h l o k b = (h, l.take l.length ++ ⟨k, b, o⟩ :: l.drop l.length, 10)) := (ask2_67 (Int.not_lt.2 HO.out) (Int.not_le.2 HPL.out) HOWN.out).trans (if_neg (fun q => by
              have := HCN.out
              rw [q.2] at this
              simp at this))
            rw [hfr]
            have hcz : ((cm + 1 : Nat) : Int) ≠ 0 := by omega
            have HLP : Hid ((0 : Int) ≤ (l.length : Int) - 1) := by
              show (0 : Int) ≤ (l.length : Int) - 1
              omega
            go_wp2
            go_loopw [14, 15] (fun va i wr => va = .int .i64 (l.length : Int) ∧ i = .int .i64 ((l.length : Int) - 1) ∧ Hid (Below w6.heap.size w6 wr)) (fun _ _ _ => 0)
            case atStart => exact ⟨rfl, by go_num, Below.refl _ _⟩
            case round =>
              obtain ⟨rfl, rfl, hbx⟩ := hrel
              rename World => wx
              clear x0 x1 g0 g1 g2
              have hz := HLP.out
              all_goals
                have HTX := Lib.hid (HT6.out.below hbx.out)
                have HCX := Lib.hid (HCL6.out.below hbx.out)
                have HBX := Lib.hid (HB6.out.trans (hbx.out.mono HB6.out.size))
                have KI := Lib.hid (with14_row (W := wx) (HNY.out wx HBX.out).1 l.length ⟨k, b, o⟩ (by omega) (Nat.le_refl _))
                have x0 := HTX.out.t0
                have x1 := HTX.out.t1
                have g0 := HCX.out.c0
                have g1 := HCX.out.c1
                have g2 := HCX.out.c2
                go_upto_region 23 with fail
                go_wp2_with fail
                refine KI.out.mono ?_
                rintro e w8 ⟨v, rfl, hr8, hb8⟩
                have HT8 := Lib.hid (HTX.out.below hb8)
                have hb9 : Below W.heap.size W w8 := HBX.out.trans (hb8.mono HBX.out.size)
                have HT9 := Lib.hid (HT8.out.setL v)
                have HB9 := Lib.hid (hb9.setCell (p := ⟨W.heap.size, 1, none⟩) (Nat.le_refl _) v)
                obtain ⟨a', c', hv, -⟩ := hr8.form
                have hgz : ∀ g, v.ownBlock = some g → W.heap.size + 1 < g := fun g e => by
                  have h1 := (World.ownsRow.lt hr8 g e).1
                  have h2 := HTX.out.sz
                  omega
                have HRL : Hid (RowW (((w8.setCell ⟨W.heap.size, 1, none⟩ v).setCell ⟨W.heap.size + 1, 0, none⟩ (.slice aH h.length cH)).setCell ⟨W.heap.size + 1, 1, none⟩ v) 0 v (l.take l.length ++ ⟨k, b, o⟩ :: l.drop l.length)) := (TR.row (ownsRow_of hr8 (fun g e => Below.heap_setCell _ _ _ _ (fun c => by have := hgz g e; have c : g = W.heap.size := c; omega))) (fun g e c => by have := hgz g e; omega)).mono (Nat.zero_le _)
                have HFR : Hid (v.ownBlock = none ∨ v = (.slice aL l.length cL) ∨ ∃ g, v.ownBlock = some g ∧ W.heap.size ≤ g) := by
                  cases e : v.ownBlock with
                  | none => exact .inl rfl
                  | some g => exact .inr (.inr ⟨g, rfl, Nat.le_trans HBX.out.size (World.ownsRow.lt hr8 g e).1⟩)
                generalize (l.take l.length ++ ⟨k, b, o⟩ :: l.drop l.length).length = nv at hv
                subst hv
                have y1 := HT8.out.t1
                have f0 := HT8.out.f0
                clear KI hr8 hb8 hb9 hgz x0 x1 g0 g1 g2
                obtain ⟨z1, f2, p0, p1⟩ := HT9.out.fin
                have x0 := HT9.out.t0
                have x1 := HT9.out.t1
                have r0 := HT9.out.r0
                have f1 := HT9.out.f1
                have HRH := Lib.hid (((HMY.out _ (TR.bel (vh := .slice aH h.length cH) (vl := .slice a' nv c') HB9.out)).1))
                have HBF := Lib.hid (TR.bel (vh := .slice aH h.length cH) (vl := .slice a' nv c') HB9.out)
                go_wp2
                refine bodyPost_ret (v := .tuple #[.agg #[.slice aH h.length cH, .slice a' nv c'], .int .i64 10]) ?_ rfl ⟨.slice aH h.length cH, .slice a' nv c', by rw [HF.out], by rw [HF.out]; exact HRH.out, by rw [HF.out]; exact HRL.out.q, .inr (.inl rfl), HFR.out, HBF.out⟩
                simp only [results, Try.results21]
                go_simp
        · have HF : Hid (ask2 h l o k b = (h, l.take l.length ++ ⟨k, b, o⟩ :: l.drop l.length, 10)) := (ask2_67 (Int.not_lt.2 HO.out) (Int.not_le.2 HPL.out) HOWN.out).trans (if_neg (fun q => hfr q.1))
          rw [Bool.eq_false_iff.2 hfr]
          go_wp2
          go_loopw [14, 15] (fun va i wr => va = .int .i64 (l.length : Int) ∧ i = .int .i64 ((l.length : Int) - 1) ∧ Hid (Below w6.heap.size w6 wr)) (fun _ _ _ => 0)
          case atStart => exact ⟨rfl, by go_num, Below.refl _ _⟩
          case round =>
            obtain ⟨rfl, rfl, hbx⟩ := hrel
            rename World => wx
            clear x0 x1 g0 g1 g2
            by_cases hz : (0 : Int) ≤ (l.length : Int) - 1
            all_goals
              have HTX := Lib.hid (HT6.out.below hbx.out)
              have HCX := Lib.hid (HCL6.out.below hbx.out)
              have HBX := Lib.hid (HB6.out.trans (hbx.out.mono HB6.out.size))
              have KI := Lib.hid (with14_row (W := wx) (HNY.out wx HBX.out).1 l.length ⟨k, b, o⟩ (by omega) (Nat.le_refl _))
              have x0 := HTX.out.t0
              have x1 := HTX.out.t1
              have g0 := HCX.out.c0
              have g1 := HCX.out.c1
              have g2 := HCX.out.c2
              go_upto_region 23 with fail
              go_wp2_with fail
              refine KI.out.mono ?_
              rintro e w8 ⟨v, rfl, hr8, hb8⟩
              have HT8 := Lib.hid (HTX.out.below hb8)
              have hb9 : Below W.heap.size W w8 := HBX.out.trans (hb8.mono HBX.out.size)
              have HT9 := Lib.hid (HT8.out.setL v)
              have HB9 := Lib.hid (hb9.setCell (p := ⟨W.heap.size, 1, none⟩) (Nat.le_refl _) v)
              obtain ⟨a', c', hv, -⟩ := hr8.form
              have hgz : ∀ g, v.ownBlock = some g → W.heap.size + 1 < g := fun g e => by
                have h1 := (World.ownsRow.lt hr8 g e).1
                have h2 := HTX.out.sz
                omega
              have HRL : Hid (RowW (((w8.setCell ⟨W.heap.size, 1, none⟩ v).setCell ⟨W.heap.size + 1, 0, none⟩ (.slice aH h.length cH)).setCell ⟨W.heap.size + 1, 1, none⟩ v) 0 v (l.take l.length ++ ⟨k, b, o⟩ :: l.drop l.length)) := (TR.row (ownsRow_of hr8 (fun g e => Below.heap_setCell _ _ _ _ (fun c => by have := hgz g e; have c : g = W.heap.size := c; omega))) (fun g e c => by have := hgz g e; omega)).mono (Nat.zero_le _)
              have HFR : Hid (v.ownBlock = none ∨ v = (.slice aL l.length cL) ∨ ∃ g, v.ownBlock = some g ∧ W.heap.size ≤ g) := by
                cases e : v.ownBlock with
                | none => exact .inl rfl
                | some g => exact .inr (.inr ⟨g, rfl, Nat.le_trans HBX.out.size (World.ownsRow.lt hr8 g e).1⟩)
              generalize (l.take l.length ++ ⟨k, b, o⟩ :: l.drop l.length).length = nv at hv
              subst hv
              have y1 := HT8.out.t1
              have f0 := HT8.out.f0
              clear KI hr8 hb8 hb9 hgz x0 x1 g0 g1 g2
              obtain ⟨z1, f2, p0, p1⟩ := HT9.out.fin
              have x0 := HT9.out.t0
              have x1 := HT9.out.t1
              have r0 := HT9.out.r0
              have f1 := HT9.out.f1
              have HRH := Lib.hid (((HMY.out _ (TR.bel (vh := .slice aH h.length cH) (vl := .slice a' nv c') HB9.out)).1))
              have HBF := Lib.hid (TR.bel (vh := .slice aH h.length cH) (vl := .slice a' nv c') HB9.out)
              go_wp2
              refine bodyPost_ret (v := .tuple #[.agg #[.slice aH h.length cH, .slice a' nv c'], .int .i64 10]) ?_ rfl ⟨.slice aH h.length cH, .slice a' nv c', by rw [HF.out], by rw [HF.out]; exact HRH.out, by rw [HF.out]; exact HRL.out.q, .inr (.inl rfl), HFR.out, HBF.out⟩
              simp only [results, Try.results21]
              go_simp
  case inr =>
    have hpn : (0 : Int) ≤ (p : Int) := Int.natCast_nonneg _
    obtain ⟨ba, oa, rfl, k0, k1, k2⟩ := (HMY.out Y5 HB5.out).2.cell hp
    have H3 : Hid (h[p].wr = true ∨ b = false → ask2 h l o k b = (h, l, 0)) := fun q => ask2_3 (Int.not_lt.2 HO.out) (Int.not_le.2 HPL.out) hp ef q
    have H4 : Hid (h[p].wr = false → b = true → ask2 h l o k b = if freeR h ⟨k, b, o⟩ = true then (holdR ⟨k, b, o⟩ h, l, 0) else (h, l.take (atR h l k) ++ ⟨k, b, o⟩ :: l.drop (atR h l k), 10)) := fun q1 q2 => ask2_45 (Int.not_lt.2 HO.out) (Int.not_le.2 HPL.out) hp ef q1 q2
    rw [ef]
    clear k0 k1
    generalize h[p].wr = xw at *
    have hpi : (p : Int) < (h.length : Int) := by omega
    cases xw with
    | true =>
      have HF := Lib.hid (H3.out (.inl rfl))
      clear H3 H4
      obtain ⟨z1, f2, p0, p1⟩ := HT5.out.fin
      have x0 := HT5.out.t0
      have x1 := HT5.out.t1
      have r0 := HT5.out.r0
      have f1 := HT5.out.f1
      have HRH := Lib.hid (((HMY.out _ (TR.bel (vh := (.slice (some ⟨ba, oa, none⟩) h.length cH)) (vl := (.slice aL l.length cL)) HB5.out)).1))
      have HRL := Lib.hid (((HNY.out _ (TR.bel (vh := (.slice (some ⟨ba, oa, none⟩) h.length cH)) (vl := (.slice aL l.length cL)) HB5.out)).1))
      have HBF := Lib.hid (TR.bel (vh := (.slice (some ⟨ba, oa, none⟩) h.length cH)) (vl := (.slice aL l.length cL)) HB5.out)
      go_wp2
      refine bodyPost_ret (v := .tuple #[.agg #[(.slice (some ⟨ba, oa, none⟩) h.length cH), (.slice aL l.length cL)], .int .i64 0]) ?_ rfl ⟨(.slice (some ⟨ba, oa, none⟩) h.length cH), (.slice aL l.length cL), by rw [HF.out], by rw [HF.out]; exact HRH.out, by rw [HF.out]; exact HRL.out, .inr (.inl rfl), .inr (.inl rfl), HBF.out⟩
      simp only [results, Try.results21]
      go_simp
    | false =>
      cases b with
      | false =>
        have HF := Lib.hid (H3.out (.inr rfl))
        clear H3 H4
        obtain ⟨z1, f2, p0, p1⟩ := HT5.out.fin
        have x0 := HT5.out.t0
        have x1 := HT5.out.t1
        have r0 := HT5.out.r0
        have f1 := HT5.out.f1
        have HRH := Lib.hid (((HMY.out _ (TR.bel (vh := (.slice (some ⟨ba, oa, none⟩) h.length cH)) (vl := (.slice aL l.length cL)) HB5.out)).1))
        have HRL := Lib.hid (((HNY.out _ (TR.bel (vh := (.slice (some ⟨ba, oa, none⟩) h.length cH)) (vl := (.slice aL l.length cL)) HB5.out)).1))
        have HBF := Lib.hid (TR.bel (vh := (.slice (some ⟨ba, oa, none⟩) h.length cH)) (vl := (.slice aL l.length cL)) HB5.out)
        go_wp2
        refine bodyPost_ret (v := .tuple #[.agg #[(.slice (some ⟨ba, oa, none⟩) h.length cH), (.slice aL l.length cL)], .int .i64 0]) ?_ rfl ⟨(.slice (some ⟨ba, oa, none⟩) h.length cH), (.slice aL l.length cL), by rw [HF.out], by rw [HF.out]; exact HRH.out, by rw [HF.out]; exact HRL.out, .inr (.inl rfl), .inr (.inl rfl), HBF.out⟩
        simp only [results, Try.results21]
        go_simp
      | true =>
        have H45 := Lib.hid (H4.out rfl rfl)
        clear H3 H4
        have HLW := Lib.hid (HNY.out Y5 HB5.out).2
        go_wp2
        go_loopw [12, 13] (fun v i wr => ∃ j cnt : Nat, i = .int .i64 (j : Int) ∧ j ≤ l.length ∧ v = .int .i64 (cnt : Int) ∧ cnt ≤ j ∧ Hid (Y5 = wr) ∧ Hid (cnt = ((l.take j).filter (isK k)).length)) (fun _ i _ => l.length - (intOf i).toNat)
        case atStart => exact ⟨0, 0, rfl, Nat.zero_le _, rfl, Nat.le_refl _, rfl, by rw [List.take_zero]; rfl⟩
        case round =>
          obtain ⟨j, cnt, rfl, hj, rfl, hcj, hY, hn⟩ := hrel
          have hY := hY.out
          subst hY
          by_cases hlt : j < l.length
          · obtain ⟨bb, off, rfl, k0, k1, k2⟩ := HLW.out.cell hlt
            have HLT := Lib.hid hlt
            have htk : l.take (j + 1) = l.take j ++ [l[j]] := List.take_succ_eq_append_getElem hlt
            have HNX : Hid (((l.take (j + 1)).filter (isK k)).length = cnt + if l[j].k = k then 1 else 0) := by
              have := hn.out
              show ((l.take (j + 1)).filter (isK k)).length = _
              rw [htk, List.filter_append, List.length_append, ← this]
              by_cases e : l[j].k = k
              · rw [if_pos e, List.filter_cons_of_pos (isK_iff.2 e)]; rfl
              · rw [if_neg e, List.filter_cons_of_neg (fun q => e (isK_iff.1 q))]; rfl
            clear k0 k2 htk hn
            generalize l[j] = x at *
            obtain ⟨xk, xw, xo⟩ := x
            replace k1 : Y5.cell? ⟨bb, off + j * 3 + 1, none⟩ = some (.string xk) := k1
            replace HNX : Hid (((l.take (j + 1)).filter (isK k)).length = cnt + if xk = k then 1 else 0) := HNX
            by_cases hk : xk = k
            · have HN : Hid (cnt + 1 = ((l.take (j + 1)).filter (isK k)).length) := by have := HNX.out; rw [if_pos hk] at this; exact this.symm
              subst hk
              clear HNX
              go_wp2
              go_roundw
              case rel => exact ⟨j + 1, cnt + 1, by go_num, HLT.out, by go_num, by omega, trivial, HN⟩
              case measure => simp [intOf]; have := HLT.out; omega
            · have HN : Hid (cnt = ((l.take (j + 1)).filter (isK k)).length) := by have := HNX.out; rw [if_neg hk] at this; exact this.symm
              have hne := str_ne14 hk
              clear HNX
              go_wp2
              go_roundw
              case rel => exact ⟨j + 1, cnt, by go_num, HLT.out, rfl, by omega, trivial, HN⟩
              case measure => simp [intOf]; have := HLT.out; omega
          · obtain rfl : j = l.length := by omega
            have hcn := hn.out
            rw [List.take_length] at hcn
            have HCN := Lib.hid hcn
            clear hn hcn
            have KR := Lib.hid (free14_any (W := Y5) (some ⟨ba, oa, none⟩) h cH aL l cL ⟨k, true, o⟩ (by omega) (HMY.out Y5 HB5.out).2)
            unfold tabV at KR
            have g0 := HCL.out.c0
            have g1 := HCL.out.c1
            have g2 := HCL.out.c2
            go_upto_region 15 with fail
            go_wp2_with fail
            refine KR.out.mono ?_
            rintro e w6 ⟨rfl, hb6⟩
            have HT6 := Lib.hid (HT5.out.below hb6)
            have HCL6 := Lib.hid (HCL.out.below hb6)
            have HB6 := Lib.hid (HB5.out.trans (hb6.mono HB5.out.size))
            clear KR hb6 g0 g1 g2 x0 x1
            have x0 := HT6.out.t0
            have x1 := HT6.out.t1
            have g0 := HCL6.out.c0
            have g1 := HCL6.out.c1
            have g2 := HCL6.out.c2
            by_cases hfr : freeR h ⟨k, true, o⟩ = true
            · have HF : Hid (ask2 h l o k true = (holdR ⟨k, true, o⟩ h, l, 0)) := (H45.out).trans (if_pos hfr)
              rw [hfr]
              have KH := Lib.hid (hold14_any (W := w6) (some ⟨ba, oa, none⟩) h cH aL l cL ⟨k, true, o⟩ hl (HMY.out w6 HB6.out).1)
              unfold tabV at KH
              go_wp2_with fail
              refine KH.out.mono ?_
              rintro e w7 ⟨v, rfl, hr7, hb7⟩
              have HT7 := Lib.hid (HT6.out.below hb7)
              have HB7 := Lib.hid (HB6.out.trans (hb7.mono HB6.out.size))
              obtain ⟨a', c', hv, -⟩ := hr7.form
              have HRH : Hid (RowW ((w7.setCell ⟨W.heap.size + 1, 0, none⟩ v).setCell ⟨W.heap.size + 1, 1, none⟩ (.slice aL l.length cL)) 0 v (holdR ⟨k, true, o⟩ h)) := (TR.row (hr7.mono (Nat.zero_le _)) (fun g e c => by
                have h1 := (World.ownsRow.lt hr7 g e).1
                have h2 := HT6.out.sz
                omega)).mono (Nat.zero_le _)
              have HFR : Hid (v.ownBlock = none ∨ v = (.slice (some ⟨ba, oa, none⟩) h.length cH) ∨ ∃ g, v.ownBlock = some g ∧ W.heap.size ≤ g) := by
                cases e : v.ownBlock with
                | none => exact .inl rfl
                | some g => exact .inr (.inr ⟨g, rfl, Nat.le_trans HB6.out.size (World.ownsRow.lt hr7 g e).1⟩)
              generalize (holdR ⟨k, true, o⟩ h).length = nv at hv
              subst hv
              clear KH hr7 hb7 x0 x1 g0 g1 g2
              have z0 := HT7.out.r0
              have f1 := HT7.out.f1
              obtain ⟨z1, f2, p0, p1⟩ := res_fin (vh := .slice a' nv c') (vl := .slice aL l.length cL) HT7.out.r0 HT7.out.r1 HT7.out.f1
              have HRL := Lib.hid (((HNY.out _ (TR.bel (vh := .slice a' nv c') (vl := .slice aL l.length cL) HB7.out)).1))
              have HBF := Lib.hid (TR.bel (vh := .slice a' nv c') (vl := .slice aL l.length cL) HB7.out)
              go_wp2
              refine bodyPost_ret (v := .tuple #[.agg #[.slice a' nv c', .slice aL l.length cL], .int .i64 0]) ?_ rfl ⟨.slice a' nv c', .slice aL l.length cL, by rw [HF.out], by rw [HF.out]; exact HRH.out.q, by rw [HF.out]; exact HRL.out, HFR.out, .inr (.inl rfl), HBF.out⟩
              simp only [results, Try.results21]
              go_simp
            · have HF0 : Hid (ask2 h l o k true = (h, l.take (atR h l k) ++ ⟨k, true, o⟩ :: l.drop (atR h l k), 10)) := (H45.out).trans (if_neg hfr)
              rw [Bool.eq_false_iff.2 hfr]
              go_wp2
              go_loopw [14, 15] (fun va i wr => ∃ m a : Nat, i = .int .i64 ((m : Int) - 1) ∧ m ≤ l.length ∧ va = .int .i64 (a : Int) ∧ m ≤ a ∧ a ≤ l.length ∧ Hid (Below w6.heap.size w6 wr) ∧ Hid (∀ j (hj : j < l.length), m ≤ j → j < a → lateB h k l[j] = false) ∧ Hid (∀ hj : a < l.length, lateB h k l[a] = true)) (fun _ i _ => (intOf i + 1).toNat)
              case atStart => exact ⟨l.length, l.length, by go_num, Nat.le_refl _, rfl, Nat.le_refl _, Nat.le_refl _, Below.refl _ _, fun j hj h1 h2 => by omega, fun hj => by omega⟩
              case round =>
                obtain ⟨m, a, rfl, hml, rfl, hma, hal, hbx, hno, hat⟩ := hrel
                rename World => wx
                clear x0 x1 g0 g1 g2
                cases m with
                | zero =>
                  have hfa : atR h l k = a := atR_eq hal (fun j hj hja => hno.out j hj (Nat.zero_le _) hja) hat.out
                  have HF : Hid (ask2 h l o k true = (h, l.take a ++ ⟨k, true, o⟩ :: l.drop a, 10)) := by
                    have := HF0.out
                    rw [hfa] at this
                    exact this
                  clear hno hat hfa HF0
                  have HTX := Lib.hid (HT6.out.below hbx.out)
                  have HCX := Lib.hid (HCL6.out.below hbx.out)
                  have HBX := Lib.hid (HB6.out.trans (hbx.out.mono HB6.out.size))
                  have KI := Lib.hid (with14_row (W := wx) (HNY.out wx HBX.out).1 a ⟨k, true, o⟩ (by omega) hal)
                  have x0 := HTX.out.t0
                  have x1 := HTX.out.t1
                  have g0 := HCX.out.c0
                  have g1 := HCX.out.c1
                  have g2 := HCX.out.c2
                  go_upto_region 23 with fail
                  go_wp2_with fail
                  refine KI.out.mono ?_
                  rintro e w8 ⟨v, rfl, hr8, hb8⟩
                  have HT8 := Lib.hid (HTX.out.below hb8)
                  have hb9 : Below W.heap.size W w8 := HBX.out.trans (hb8.mono HBX.out.size)
                  have HT9 := Lib.hid (HT8.out.setL v)
                  have HB9 := Lib.hid (hb9.setCell (p := ⟨W.heap.size, 1, none⟩) (Nat.le_refl _) v)
                  obtain ⟨a', c', hv, -⟩ := hr8.form
                  have hgz : ∀ g, v.ownBlock = some g → W.heap.size + 1 < g := fun g e => by
                    have h1 := (World.ownsRow.lt hr8 g e).1
                    have h2 := HTX.out.sz
                    omega
                  have HRL : Hid (RowW (((w8.setCell ⟨W.heap.size, 1, none⟩ v).setCell ⟨W.heap.size + 1, 0, none⟩ (.slice (some ⟨ba, oa, none⟩) h.length cH)).setCell ⟨W.heap.size + 1, 1, none⟩ v) 0 v (l.take a ++ ⟨k, true, o⟩ :: l.drop a)) := (TR.row (ownsRow_of hr8 (fun g e => Below.heap_setCell _ _ _ _ (fun c => by have := hgz g e; have c : g = W.heap.size := c; omega))) (fun g e c => by have := hgz g e; omega)).mono (Nat.zero_le _)
                  have HFR : Hid (v.ownBlock = none ∨ v = (.slice aL l.length cL) ∨ ∃ g, v.ownBlock = some g ∧ W.heap.size ≤ g) := by
                    cases e : v.ownBlock with
                    | none => exact .inl rfl
                    | some g => exact .inr (.inr ⟨g, rfl, Nat.le_trans HBX.out.size (World.ownsRow.lt hr8 g e).1⟩)
                  generalize (l.take a ++ ⟨k, true, o⟩ :: l.drop a).length = nv at hv
                  subst hv
                  have y1 := HT8.out.t1
                  have f0 := HT8.out.f0
                  clear KI hr8 hb8 hb9 hgz x0 x1 g0 g1 g2
                  obtain ⟨z1, f2, p0, p1⟩ := HT9.out.fin
                  have x0 := HT9.out.t0
                  have x1 := HT9.out.t1
                  have r0 := HT9.out.r0
                  have f1 := HT9.out.f1
                  have HRH := Lib.hid (((HMY.out _ (TR.bel (vh := .slice (some ⟨ba, oa, none⟩) h.length cH) (vl := .slice a' nv c') HB9.out)).1))
                  have HBF := Lib.hid (TR.bel (vh := .slice (some ⟨ba, oa, none⟩) h.length cH) (vl := .slice a' nv c') HB9.out)
                  go_wp2
                  refine bodyPost_ret (v := .tuple #[.agg #[.slice (some ⟨ba, oa, none⟩) h.length cH, .slice a' nv c'], .int .i64 10]) ?_ rfl ⟨.slice (some ⟨ba, oa, none⟩) h.length cH, .slice a' nv c', by rw [HF.out], by rw [HF.out]; exact HRH.out, by rw [HF.out]; exact HRL.out.q, .inr (.inl rfl), HFR.out, HBF.out⟩
                  simp only [results, Try.results21]
                  go_simp
                | succ m =>
                  have hlt : m < l.length := hml
                  have HWX := Lib.hid (HB6.out.trans (hbx.out.mono HB6.out.size))
                  have HBD := Lib.hid (fun n => below_drewN hbx.out n)
                  obtain ⟨bb, off, rfl, k0, k1, k2⟩ := (HNY.out wx HWX.out).2.cell hlt
                  have HLT := Lib.hid hlt
                  have HNO := hno
                  have HAT := hat
                  have HX : Hid (lateB h k l[m] = (isK k l[m] && decide (findL l[m].ow k h < 0))) := rfl
                  have HSET : Hid (lateB h k l[m] = true → (∀ j (hj : j < l.length), m ≤ j → j < m → lateB h k l[j] = false) ∧ (∀ hj : m < l.length, lateB h k l[m] = true)) := fun q => ⟨fun j _ h1 h2 => by omega, fun _ => q⟩
                  have HKEEP : Hid (lateB h k l[m] = false → ∀ j (hj : j < l.length), m ≤ j → j < a → lateB h k l[j] = false) := fun q j hj h1 h2 => by
                    by_cases e : j = m
                    · subst e; exact q
                    · exact hno.out j hj (by omega) h2
                  have HTD := Lib.hid (HT6.out.below hbx.out)
                  have x0 := HTD.out.t0
                  have x1 := HTD.out.t1
                  have KF := Lib.hid (fun oo n => (find_any (W := wx.drewN n) (some ⟨ba, oa, none⟩) h cH oo k (by omega) (HMY.out (wx.drewN n) (below_drewN HWX.out n)).2).mono (fun e w q => (⟨q.1, q.2.symm⟩ : e = _ ∧ w = _)))
                  clear hno hat k2 hbx
                  generalize l[m] = x at *
                  obtain ⟨xk, xw, xo⟩ := x
                  replace k0 : wx.cell? ⟨bb, off + m * 3, none⟩ = some (.int .i64 xo) := k0
                  replace k1 : wx.cell? ⟨bb, off + m * 3 + 1, none⟩ = some (.string xk) := k1
                  have hmi : (m : Int) < (l.length : Int) := by omega
                  have hmn : (0 : Int) ≤ (m : Int) := Int.natCast_nonneg _
                  have hmm : ((m + 1 : Nat) : Int) - 1 = (m : Int) := by omega
                  rw [hmm]
                  by_cases hk : xk = k
                  · rcases findL_cases xo k h with ⟨e, _⟩ | ⟨q, hq, e, _⟩
                    · have HLT1 : Hid (lateB h k ⟨xk, xw, xo⟩ = true) := by
                        show lateB h k ⟨xk, xw, xo⟩ = true
                        rw [HX.out, isK_iff.2 hk, e]; rfl
                      have HS := HSET.out HLT1.out
                      have HS1 := Lib.hid HS.1
                      have HS2 := Lib.hid HS.2
                      have KF1 := Lib.hid (KF.out xo)
                      rw [e] at KF1
                      subst hk
                      clear HX HSET HKEEP HS KF HLT1 e
                      go_upto_region 21 with fail
                      go_quiet (first | (go_at_call 45; exact Calls.quiet_of_same (KF1.out _)))
                      all_goals go_wp2
                      all_goals
                        go_roundw
                        case rel => exact ⟨m, m, by go_num, Nat.le_of_lt HLT.out, rfl, Nat.le_refl _, Nat.le_of_lt HLT.out, HBD.out _, HS1, HS2⟩
                        case measure => simp [intOf] <;> omega
                    · have HLT1 : Hid (lateB h k ⟨xk, xw, xo⟩ = false) := by
                        show lateB h k ⟨xk, xw, xo⟩ = false
                        rw [HX.out, isK_iff.2 hk, e]
                        simp
                      have HS1 := Lib.hid (HKEEP.out HLT1.out)
                      have KF1 := Lib.hid (KF.out xo)
                      rw [e] at KF1
                      have hqn : (0 : Int) ≤ (q : Int) := Int.natCast_nonneg _
                      subst hk
                      clear HX HSET HKEEP KF HLT1 e
                      go_upto_region 21 with fail
                      go_quiet (first | (go_at_call 45; exact Calls.quiet_of_same (KF1.out _)))
                      all_goals go_wp2
                      all_goals
                        go_roundw
                        case rel => exact ⟨m, a, by go_num, Nat.le_of_lt HLT.out, rfl, Nat.le_trans (Nat.le_succ _) hma, hal, HBD.out _, HS1, HAT⟩
                        case measure => simp [intOf] <;> omega
                  · have HLT1 : Hid (lateB h k ⟨xk, xw, xo⟩ = false) := by
                      show lateB h k ⟨xk, xw, xo⟩ = false
                      rw [HX.out, show isK k ⟨xk, xw, xo⟩ = false from Bool.eq_false_iff.2 (fun q => hk (isK_iff.1 q))]; rfl
                    have HS1 := Lib.hid (HKEEP.out HLT1.out)
                    have hne := str_ne14 hk
                    clear HX HSET HKEEP KF HLT1
                    go_upto_region 21 with fail
                    go_quiet (fail)
                    all_goals go_wp2
                    all_goals
                      go_roundw
                      case rel => exact ⟨m, a, by go_num, Nat.le_of_lt HLT.out, rfl, Nat.le_trans (Nat.le_succ _) hma, hal, HBD.out _, HS1, HAT⟩
                      case measure => simp [intOf] <;> omega

end
end Go.Proofs.Ytjojempjmpaaaaa
