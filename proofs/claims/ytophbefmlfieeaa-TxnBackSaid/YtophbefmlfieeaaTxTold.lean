/-
  THE CONTRACT OF told: a transaction with rows of its own.
-/
import Derived.Test.YtophbefmlfieeaaTxCloneP
import Derived.Test.YtophbefmlfieeaaTxNote1
import Derived.Test.YtophbefmlfieeaaTxBehind
namespace Go.Proofs.Ytophbefmlfieeaa
open Go.RowKit
theorem cloneR {W X : World} {B : Nat} {v : Value} {l : List Rc} (h : RecR W B v l) (hl : l.length ≤ 100000) (hb : Below W.heap.size W X) :
    Calls Try.prog 50 #[v] X fun x w' => ∃ v', x = .returned v' ∧ RecR w' X.heap.size v' l ∧ Below X.heap.size X w' := by
  have hX := h.below hb
  rcases hX.form with ⟨rfl, rfl⟩ | ⟨g, c, rfl, _⟩
  · refine (clone_nil X).mono ?_
    rintro x w' ⟨rfl, rfl⟩
    exact ⟨_, rfl, World.ownsRow_nil _ _ _ _, Below.refl _ _⟩
  · refine (clone_some ⟨g, 0, none⟩ l c X hl (World.ownsRow.cells hX rfl)).mono ?_
    rintro x w' ⟨g', c', rfl, h1, h2⟩
    exact ⟨_, rfl, h1, h2⟩
theorem clonePR {W X : World} {B : Nat} {v : Value} {l : List Plc} (h : PlcR W B v l) (hl : l.length ≤ 100000) (hb : Below W.heap.size W X) :
    Calls Try.prog 53 #[v] X fun x w' => ∃ v', x = .returned v' ∧ PlcR w' X.heap.size v' l ∧ Below X.heap.size X w' := by
  have hX := h.below hb
  rcases hX.form with ⟨rfl, rfl⟩ | ⟨g, c, rfl, _⟩
  · refine (clonep_nil X).mono ?_
    rintro x w' ⟨rfl, rfl⟩
    exact ⟨_, rfl, World.ownsRow_nil _ _ _ _, Below.refl _ _⟩
  · refine (clonep_some ⟨g, 0, none⟩ l c X hl (World.ownsRow.cells hX rfl)).mono ?_
    rintro x w' ⟨g', c', rfl, h1, h2⟩
    exact ⟨_, rfl, h1, h2⟩
/-- A block's cells. -/
structure BoxL (X : World) (q : Nat) (vs : List Value) : Prop where
  at' : ∀ j u, vs[j]? = some u → X.cell? ⟨q, j, none⟩ = some u
  fz : ∀ i, X.frozen? ⟨q, i, none⟩ = false
  lt : q < X.heap.size
theorem BoxL.below {W X : World} {q : Nat} {vs : List Value} (h : BoxL W q vs) (hb : Below W.heap.size W X) : BoxL X q vs :=
  ⟨fun j u hj => keep_cell hb (h.at' j u hj), fun i => (hb.frozen (p := ⟨q, i, none⟩) h.lt).trans (h.fz i), Nat.lt_of_lt_of_le h.lt hb.size⟩
theorem BoxL.put {W : World} {q : Nat} {vs : List Value} (h : BoxL W q vs) (i : Nat) (v : Value) (hi : i < vs.length) : BoxL (W.setCell ⟨q, i, none⟩ v) q (vs.set i v) :=
  ⟨fun j u hj => by
    rw [List.getElem?_set] at hj
    by_cases e : i = j
    · rw [if_pos e, if_pos hi] at hj
      subst e
      injection hj with hj
      subst hj
      exact World.cell?_setCell_same _ _ _ (h.at' i _ (List.getElem?_eq_getElem hi))
    · rw [if_neg e] at hj
      rw [World.cell?_setCell_other _ _ _ _ (fun x => by injection x with _ x; exact e x)]
      exact h.at' j u hj,
   fun j => by rw [World.frozen?_setCell]; exact h.fz j, by have := h.lt; simpa using this⟩
theorem BoxL.other {W : World} {q b i : Nat} {u : Value} {vs : List Value} (h : BoxL W q vs) (hb : b ≠ q) : BoxL (W.setCell ⟨b, i, none⟩ u) q vs :=
  ⟨fun j v hj => by rw [World.cell?_setCell_other _ _ _ _ (fun x => by injection x with x _; exact hb x)]; exact h.at' j v hj, fun j => by rw [World.frozen?_setCell]; exact h.fz j, by have := h.lt; simpa using this⟩
theorem BoxL.new (W : World) (vs : List Value) (T : TypeId) : BoxL (W.alloc (.cells vs.toArray T)) W.heap.size vs :=
  ⟨fun j u hj => new_cell rfl (by simpa using hj), fun _ => World.frozen?_alloc_at _ _ _ _ rfl, by rw [World.size_alloc]; omega⟩
theorem BoxL.newAt {W : World} {n : Nat} (vs : List Value) (T : TypeId) (hn : n = W.heap.size) : BoxL (W.alloc (.cells vs.toArray T)) n vs := by
  subst hn
  exact BoxL.new W vs T
theorem BoxL.alloc {W : World} {q : Nat} {vs : List Value} (h : BoxL W q vs) (o : Obj) : BoxL (W.alloc o) q vs := h.below ((Below.refl _ _).alloc (Nat.le_refl _) o)
theorem rec_other {W : World} {B q i : Nat} {v u : Value} {l : List Rc} (h : RecR W B v l) (hq : q < B) : RecR (W.setCell ⟨q, i, none⟩ u) B v l :=
  row_grown h (Lib.grownBy_setCell W q i u) (fun k hk e => by
    injection e with e
    have := (World.ownsRow.lt h k hk).1
    omega)
theorem plc_other {W : World} {B q i : Nat} {v u : Value} {l : List Plc} (h : PlcR W B v l) (hq : q < B) : PlcR (W.setCell ⟨q, i, none⟩ u) B v l :=
  row_grown h (Lib.grownBy_setCell W q i u) (fun k hk e => by
    injection e with e
    have := (World.ownsRow.lt h k hk).1
    omega)
theorem plc_base {W : World} {B B' : Nat} {v : Value} {l : List Plc} (h : PlcR W B v l) (hB : B' ≤ B) : PlcR W B' v l := by
  refine ⟨h.1, ?_⟩
  rcases h.2 with a | ⟨g, cap, cur, hv, hb, r⟩
  · exact .inl a
  · exact .inr ⟨g, cap, cur, hv, Nat.le_trans hB hb, r⟩
theorem rec_others {B q : Nat} {v : Value} {l : List Rc} (hq : q < B) : ∀ (us : List Value) (o : Nat) (W : World), RecR W B v l → RecR (W.setCells q o us) B v l
  | [], _, _, h => h
  | u :: us, o, W, h => rec_others hq us (o + 1) (W.setCell ⟨q, o, none⟩ u) (rec_other h hq)
theorem plc_others {B q : Nat} {v : Value} {l : List Plc} (hq : q < B) : ∀ (us : List Value) (o : Nat) (W : World), PlcR W B v l → PlcR (W.setCells q o us) B v l
  | [], _, _, h => h
  | u :: us, o, W, h => plc_others hq us (o + 1) (W.setCell ⟨q, o, none⟩ u) (plc_other h hq)
theorem below_sets {w : World} {B q : Nat} (hq : B ≤ q) : ∀ (us : List Value) (o : Nat) (W : World), Below B w W → Below B w (W.setCells q o us)
  | [], _, _, h => h
  | u :: us, o, W, h => below_sets hq us (o + 1) (W.setCell ⟨q, o, none⟩ u) (h.setCell (p := ⟨q, o, none⟩) hq u)
/-- What is told of one. -/
def TldP (W : World) (d : KnD) (x : Ending) (w' : World) : Prop :=
  ∃ cv pv, x = .returned (.agg #[.int .i64 d.id, .int .i64 d.home, .int .i64 d.first, .int .i64 d.last, .int .i64 d.st, cv, pv]) ∧ RecR w' W.heap.size cv d.cl ∧ PlcR w' W.heap.size pv d.pl ∧ (∀ k, cv.ownBlock = some k → pv.ownBlock ≠ some k) ∧ Below W.heap.size W w'
section
variable {W : World} {B K : Nat} {d : KnD}
set_option maxRecDepth 100000 in
set_option maxHeartbeats 4000000 in
theorem told_any (h : KnIs W B K d) (hl : d.cl.length ≤ 100000) (hpl : d.pl.length ≤ 100000) :
    Calls Try.prog 36 #[.pointer (some ⟨K, 0, none⟩)] W (TldP W d) := by
  obtain ⟨id, home, first, last, st, cv, cl, pv, pl⟩ := d
  simp only at hl hpl
  obtain ⟨ca, cc, e⟩ := h.cr.slice
  simp only at e
  subst e
  obtain ⟨pa, pc, e⟩ := h.pr.slice
  simp only at e
  subst e
  have hz := (Below.refl W.heap.size W).alloc (Nat.le_refl _) (.cells #[.int .i64 0, .int .i64 0, .int .i64 0, .int .i64 0, .int .i64 0, .slice none 0 0, .slice none 0 0] 56)
  have N0 := h.below hz
  have k0 := N0.c0
  have k1 := N0.c1
  have k2 := N0.c2
  have k3 := N0.c3
  have k4 := N0.c4
  have k5 := N0.c5
  have k6 := N0.c6
  simp only at k0 k1 k2 k3 k4 k5 k6
  have hs1 : (W.alloc (.cells #[.int .i64 0, .int .i64 0, .int .i64 0, .int .i64 0, .int .i64 0, .slice none 0 0, .slice none 0 0] 56)).heap.size = W.heap.size + 1 := World.size_alloc _ _
  have hb := hz.alloc hz.size (.cells #[.int .i64 id, .int .i64 home, .int .i64 first, .int .i64 last, .int .i64 st, .slice ca cl.length cc, .slice pa pl.length pc] 56)
  have HYS : Hid (((W.alloc (.cells #[.int .i64 0, .int .i64 0, .int .i64 0, .int .i64 0, .int .i64 0, .slice none 0 0, .slice none 0 0] 56)).alloc (.cells #[.int .i64 id, .int .i64 home, .int .i64 first, .int .i64 last, .int .i64 st, .slice ca cl.length cc, .slice pa pl.length pc] 56)).heap.size = W.heap.size + 2) := by
    show _ = _
    rw [World.size_alloc, hs1]
  have b1 : BoxL ((W.alloc (.cells #[.int .i64 0, .int .i64 0, .int .i64 0, .int .i64 0, .int .i64 0, .slice none 0 0, .slice none 0 0] 56)).alloc (.cells #[.int .i64 id, .int .i64 home, .int .i64 first, .int .i64 last, .int .i64 st, .slice ca cl.length cc, .slice pa pl.length pc] 56)) (W.heap.size + 1) [.int .i64 id, .int .i64 home, .int .i64 first, .int .i64 last, .int .i64 st, .slice ca cl.length cc, .slice pa pl.length pc] := BoxL.newAt _ _ hs1.symm
  have b0 : BoxL ((W.alloc (.cells #[.int .i64 0, .int .i64 0, .int .i64 0, .int .i64 0, .int .i64 0, .slice none 0 0, .slice none 0 0] 56)).alloc (.cells #[.int .i64 id, .int .i64 home, .int .i64 first, .int .i64 last, .int .i64 st, .slice ca cl.length cc, .slice pa pl.length pc] 56)) W.heap.size [.int .i64 0, .int .i64 0, .int .i64 0, .int .i64 0, .int .i64 0, .slice none 0 0, .slice none 0 0] := (BoxL.new W [.int .i64 0, .int .i64 0, .int .i64 0, .int .i64 0, .int .i64 0, .slice none 0 0, .slice none 0 0] 56).alloc _
  have y5 := b1.at' 5 _ rfl
  have H1 := Lib.hid b1
  have H0 := Lib.hid b0
  have HB := Lib.hid hb
  have HN := Lib.hid h
  have HL := Lib.hid hl
  have HPL := Lib.hid hpl
  clear hz hb h N0 hl hpl b0 b1
  go_enter Try.func36, Try.ntmps36
  go_upto_region 2 with fail
  clear k0 k1 k2 k3 k4 k5 k6 hs1
  generalize ((W.alloc (.cells #[.int .i64 0, .int .i64 0, .int .i64 0, .int .i64 0, .int .i64 0, .slice none 0 0, .slice none 0 0] 56)).alloc (.cells #[.int .i64 id, .int .i64 home, .int .i64 first, .int .i64 last, .int .i64 st, .slice ca cl.length cc, .slice pa pl.length pc] 56)) = Y at *
  have KC := Lib.hid (cloneR HN.out.cr HL.out HB.out)
  simp only at KC
  go_wp2_with fail
  refine KC.out.mono ?_
  rintro x w2 ⟨v', rfl, hr, hb2⟩
  obtain ⟨ca', cc', rfl⟩ := hr.slice
  have g1 := H1.out.below hb2
  have g0 := H0.out.below hb2
  have y5' := g1.at' 5 _ rfl
  have f5' := g1.fz 5
  have hq3 : W.heap.size + 1 < Y.heap.size := by rw [HYS.out]; omega
  have G1 : Hid (BoxL (w2.setCell ⟨W.heap.size + 1, 5, none⟩ (.slice ca' cl.length cc')) (W.heap.size + 1) [.int .i64 id, .int .i64 home, .int .i64 first, .int .i64 last, .int .i64 st, .slice ca' cl.length cc', .slice pa pl.length pc]) := g1.put 5 (.slice ca' cl.length cc') (by simp)
  have G0 := Lib.hid (g0.other (b := W.heap.size + 1) (i := 5) (u := .slice ca' cl.length cc') (by omega))
  have R1 := Lib.hid (rec_other (i := 5) (u := .slice ca' cl.length cc') hr hq3)
  have B1 := Lib.hid ((HB.out.trans (hb2.mono HB.out.size)).setCell (p := ⟨W.heap.size + 1, 5, none⟩) (Nat.le_succ _) (.slice ca' cl.length cc'))
  have HQ3 := Lib.hid hq3
  have HS2 : Hid (Y.heap.size ≤ (w2.setCell ⟨W.heap.size + 1, 5, none⟩ (.slice ca' cl.length cc')).heap.size) := by
    have := hb2.size
    show Y.heap.size ≤ (w2.setCell _ _).heap.size
    simpa using this
  clear y5 g1 g0 hr hb2 H1 H0 KC hq3
  go_upto_region 3 with fail
  generalize w2.setCell ⟨W.heap.size + 1, 5, none⟩ (.slice ca' cl.length cc') = U at *
  clear y5' f5'
  have KP := Lib.hid (clonePR HN.out.pr HPL.out B1.out)
  simp only at KP
  have y6 := G1.out.at' 6 _ rfl
  go_wp2_with fail
  refine KP.out.mono ?_
  rintro x w3 ⟨v', rfl, hr, hb2⟩
  obtain ⟨pa', pc', rfl⟩ := hr.slice
  have g1 := G1.out.below hb2
  have g0 := G0.out.below hb2
  have r1 := R1.out.below hb2
  have y6' := g1.at' 6 _ rfl
  have f6' := g1.fz 6
  have hq4 : W.heap.size + 1 < U.heap.size := Nat.lt_of_lt_of_le HQ3.out HS2.out
  have K1 : Hid (BoxL (w3.setCell ⟨W.heap.size + 1, 6, none⟩ (.slice pa' pl.length pc')) (W.heap.size + 1) [.int .i64 id, .int .i64 home, .int .i64 first, .int .i64 last, .int .i64 st, .slice ca' cl.length cc', .slice pa' pl.length pc']) := g1.put 6 (.slice pa' pl.length pc') (by simp)
  have K0 := Lib.hid (g0.other (b := W.heap.size + 1) (i := 6) (u := .slice pa' pl.length pc') (by omega))
  have R2 := Lib.hid (plc_other (i := 6) (u := .slice pa' pl.length pc') hr hq4)
  have R3 := Lib.hid (rec_other (i := 6) (u := .slice pa' pl.length pc') r1 HQ3.out)
  have B2 := Lib.hid ((B1.out.trans (hb2.mono B1.out.size)).setCell (p := ⟨W.heap.size + 1, 6, none⟩) (Nat.le_succ _) (.slice pa' pl.length pc'))
  have HR1 := Lib.hid R1.out
  clear y6 g1 g0 r1 hr hb2 G1 G0 KP
  go_upto_region 4 with fail
  generalize w3.setCell ⟨W.heap.size + 1, 6, none⟩ (.slice pa' pl.length pc') = V at *
  clear y6' f6'
  have z0 := K1.out.at' 0 _ rfl
  have z1 := K1.out.at' 1 _ rfl
  have z2 := K1.out.at' 2 _ rfl
  have z3 := K1.out.at' 3 _ rfl
  have z4 := K1.out.at' 4 _ rfl
  have z5 := K1.out.at' 5 _ rfl
  have z6 := K1.out.at' 6 _ rfl
  have d0 := K0.out.at' 0 _ rfl
  have d1 := K0.out.at' 1 _ rfl
  have d2 := K0.out.at' 2 _ rfl
  have d3 := K0.out.at' 3 _ rfl
  have d4 := K0.out.at' 4 _ rfl
  have d5 := K0.out.at' 5 _ rfl
  have d6 := K0.out.at' 6 _ rfl
  have df := K0.out.fz
  have HW1 : Hid (W.heap.size < Y.heap.size) := Nat.lt_of_succ_lt HQ3.out
  have HW2 : Hid (W.heap.size < U.heap.size) := Nat.lt_of_lt_of_le HW1.out HS2.out
  clear K1 K0
  go_wp2
  refine bodyPost_ret (v := .agg #[.int .i64 id, .int .i64 home, .int .i64 first, .int .i64 last, .int .i64 st, .slice ca' cl.length cc', .slice pa' pl.length pc']) ?_ rfl ⟨_, _, rfl, rec_base (rec_others HW1.out [.int .i64 id, .int .i64 home, .int .i64 first, .int .i64 last, .int .i64 st, .slice ca' cl.length cc', .slice pa' pl.length pc'] 0 V R3.out) (Nat.le_of_lt HW1.out), plc_base (plc_others HW2.out [.int .i64 id, .int .i64 home, .int .i64 first, .int .i64 last, .int .i64 st, .slice ca' cl.length cc', .slice pa' pl.length pc'] 0 V R2.out) (Nat.le_of_lt HW2.out), fun k h1 h2 => by
    have e1 := (World.ownsRow.lt HR1.out k h1).2
    have e2 := (World.ownsRow.lt R2.out k h2).1
    omega, below_sets (Nat.le_refl _) [.int .i64 id, .int .i64 home, .int .i64 first, .int .i64 last, .int .i64 st, .slice ca' cl.length cc', .slice pa' pl.length pc'] 0 V B2.out⟩
  simp [results, Try.results36, go_sem, d0, d1, d2, d3, d4, d5, d6]
end
end Go.Proofs.Ytophbefmlfieeaa
