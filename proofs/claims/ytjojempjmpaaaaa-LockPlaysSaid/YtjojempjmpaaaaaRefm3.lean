/-
  ref14: hold, OF ANY CLAIM.
  ref14: hold, in one; what Ask works on.
-/
import Derived.Test.YtjojempjmpaaaaaTwom
namespace Go.Proofs.Ytjojempjmpaaaaa
open Go.RowKit
theorem without14_row {W : World} {v : Value} {l : List Wc} (h : RowQ W v l) (p : Nat) (hl : l.length ≤ 100000) (hp : p < l.length) :
    Calls Try.prog 52 #[v, .int .i64 (p : Int)] W (WcP W (l.take p ++ l.drop (p + 1))) := by
  rcases h with ⟨rfl, rfl⟩ | ⟨g, cap, rfl, h1, h2, h3⟩
  · simp at hp
  · exact without14_some g 0 l cap p hl h1 h2 hp h3
theorem RowW.mono {W : World} {B B' : Nat} {v : Value} {l : List Wc} (h : RowW W B v l) (hb : B' ≤ B) : RowW W B' v l := ⟨h.1, h.2.imp id fun ⟨g, cap, cur, q1, q2, q3⟩ => ⟨g, cap, cur, q1, Nat.le_trans hb q2, q3⟩⟩
/-- A row's form as a value. -/
theorem RowW.form {W : World} {B : Nat} {v : Value} {l : List Wc} (h : RowW W B v l) : ∃ a c, v = .slice a l.length c ∧ WcsAt W a l := by
  obtain ⟨a, c, hv, _, hx⟩ := h.at
  exact ⟨a, c, hv, hx W (fun _ _ => rfl)⟩
section
variable {W : World}
/-- What hold answers. -/
def HdP (W : World) (vl : Value) (h : List Wc) (e : Ending) (W' : World) : Prop := ∃ v, e = .returned (.agg #[v, vl]) ∧ RowW W' W.heap.size v h ∧ Below W.heap.size W W'
set_option maxRecDepth 100000 in
set_option maxHeartbeats 2000000 in
theorem hold14_no (aH : Option Addr) (h : List Wc) (cH : Nat) (aL : Option Addr) (l : List Wc) (cL : Nat) (c : Wc) (hl : h.length ≤ 90000) (hm : RowQ W (.slice aH h.length cH) h) (hf : findL c.ow c.k h = -1) :
    Calls Try.prog 47 #[tabV aH h cH aL l cL, .agg #[.int .i64 c.ow, .string c.k, .bool c.wr]] W (HdP W (.slice aL l.length cL) (h ++ [c])) := by
  have HT := Lib.hid (th_new W (.slice aH h.length cH) (.slice aL l.length cL) c)
  have hb0 : Below W.heap.size W (((W.alloc (.cells #[.slice aH h.length cH, .slice aL l.length cL] 29)).alloc (.cells #[.int .i64 c.ow, .string c.k, .bool c.wr] 67)).alloc (.cells #[.slice none 0 0, .slice none 0 0] 29)) := (((Below.refl _ _).alloc (Nat.le_refl _) _).alloc (by rw [World.size_alloc]; omega) _).alloc (by rw [World.size_alloc, World.size_alloc]; omega) _
  have HM := Lib.hid (hm.below hb0)
  have HB := Lib.hid hb0
  have hli : (h.length : Int) ≤ 90000 := by omega
  have HF := Lib.hid hf
  clear hm hb0 hf
  unfold tabV
  go_enter Try.func47, Try.ntmps47
  go_upto_region 1 with fail
  generalize (((W.alloc (.cells #[.slice aH h.length cH, .slice aL l.length cL] 29)).alloc (.cells #[.int .i64 c.ow, .string c.k, .bool c.wr] 67)).alloc (.cells #[.slice none 0 0, .slice none 0 0] 29)) = Y at *
  have t0 := HT.out.t0
  have c0 := HT.out.c0
  have c1 := HT.out.c1
  have c2 := HT.out.c2
  obtain ⟨aH2, cH2, hvH, hwH⟩ := HM.out.form
  injection hvH with hv1 _ hv3
  subst hv1 hv3
  have KF := Lib.hid (find_any (W := Y) aH h cH c.ow c.k (by omega) hwH)
  rw [HF.out] at KF
  have KW := Lib.hid (with14_row (W := Y) HM.out h.length c (by omega) (Nat.le_refl _))
  rw [List.take_length, List.drop_length] at KW
  clear hwH
  go_wp2_with fail
  refine KF.out.mono ?_
  rintro e w ⟨rfl, rfl⟩
  clear KF
  go_wp2_with fail
  refine KW.out.mono ?_
  rintro e w1 ⟨v, rfl, hr, hb⟩
  clear KW t0 c0 c1 c2
  obtain ⟨a', c', hv, -⟩ := hr.at
  generalize (h ++ [c]).length = nv at hv
  subst hv
  have HT1 := HT.out.below hb
  have hNs := HT.out.sz
  have x1 := HT1.t1
  have f0 := HT1.f0
  have f2 : ∀ i, (w1.setCell ⟨W.heap.size, 0, none⟩ (.slice a' nv c')).frozen? ⟨W.heap.size + 1 + 1, i, none⟩ = false := fun i => by rw [World.frozen?_setCell]; exact HT1.f2 i
  have f3 : ∀ i, ((w1.setCell ⟨W.heap.size, 0, none⟩ (.slice a' nv c')).setCell ⟨W.heap.size + 1 + 1, 0, none⟩ (.slice a' nv c')).frozen? ⟨W.heap.size + 1 + 1, i, none⟩ = false := fun i => by rw [World.frozen?_setCell]; exact f2 i
  have x0 := HT1.t0
  have y0 : (w1.setCell ⟨W.heap.size, 0, none⟩ (.slice a' nv c')).cell? ⟨W.heap.size, 0, none⟩ = some (.slice a' nv c') := sc_eq HT1.t0
  have y1 : (w1.setCell ⟨W.heap.size, 0, none⟩ (.slice a' nv c')).cell? ⟨W.heap.size, 1, none⟩ = some (.slice aL l.length cL) := sc_ne HT1.t1 (.inr (by decide))
  have z0 : (w1.setCell ⟨W.heap.size, 0, none⟩ (.slice a' nv c')).cell? ⟨W.heap.size + 1 + 1, 0, none⟩ = some (.slice none 0 0) := sc_ne HT1.r0 (.inl (by omega))
  have z1 : (w1.setCell ⟨W.heap.size, 0, none⟩ (.slice a' nv c')).cell? ⟨W.heap.size + 1 + 1, 1, none⟩ = some (.slice none 0 0) := sc_ne HT1.r1 (.inl (by omega))
  have q0 : ((w1.setCell ⟨W.heap.size, 0, none⟩ (.slice a' nv c')).setCell ⟨W.heap.size + 1 + 1, 0, none⟩ (.slice a' nv c')).cell? ⟨W.heap.size + 1 + 1, 0, none⟩ = some (.slice a' nv c') := sc_eq z0
  have q1 : ((w1.setCell ⟨W.heap.size, 0, none⟩ (.slice a' nv c')).setCell ⟨W.heap.size + 1 + 1, 0, none⟩ (.slice a' nv c')).cell? ⟨W.heap.size + 1 + 1, 1, none⟩ = some (.slice none 0 0) := sc_ne z1 (.inr (by decide))
  have p0 : (((w1.setCell ⟨W.heap.size, 0, none⟩ (.slice a' nv c')).setCell ⟨W.heap.size + 1 + 1, 0, none⟩ (.slice a' nv c')).setCell ⟨W.heap.size + 1 + 1, 1, none⟩ (.slice aL l.length cL)).cell? ⟨W.heap.size + 1 + 1, 0, none⟩ = some (.slice a' nv c') := sc_ne q0 (.inr (by decide))
  have p1 : (((w1.setCell ⟨W.heap.size, 0, none⟩ (.slice a' nv c')).setCell ⟨W.heap.size + 1 + 1, 0, none⟩ (.slice a' nv c')).setCell ⟨W.heap.size + 1 + 1, 1, none⟩ (.slice aL l.length cL)).cell? ⟨W.heap.size + 1 + 1, 1, none⟩ = some (.slice aL l.length cL) := sc_eq q1
  have hr3 : RowW (((w1.setCell ⟨W.heap.size, 0, none⟩ (.slice a' nv c')).setCell ⟨W.heap.size + 1 + 1, 0, none⟩ (.slice a' nv c')).setCell ⟨W.heap.size + 1 + 1, 1, none⟩ (.slice aL l.length cL)) Y.heap.size (.slice a' nv c') (h ++ [c]) := rowW_set (rowW_set (rowW_set hr _ _ (by show W.heap.size < _; omega)) _ _ hNs) _ _ hNs
  have HR := Lib.hid (show RowW _ W.heap.size (.slice a' nv c') (h ++ [c]) from ⟨hr3.1, hr3.2.imp id fun ⟨g, cap, cur, u1, u2, u3⟩ => ⟨g, cap, cur, u1, Nat.le_trans HB.out.size u2, u3⟩⟩)
  have HBB := Lib.hid ((((HB.out.trans (hb.mono HB.out.size)).setCell (p := ⟨W.heap.size, 0, none⟩) (Nat.le_refl _) (.slice a' nv c')).setCell (p := ⟨W.heap.size + 1 + 1, 0, none⟩) (Nat.le_trans (Nat.le_succ _) (Nat.le_succ _)) (.slice a' nv c')).setCell (p := ⟨W.heap.size + 1 + 1, 1, none⟩) (Nat.le_trans (Nat.le_succ _) (Nat.le_succ _)) (.slice aL l.length cL))
  clear hr hr3 hb HT1 hNs
  go_wp2
  refine bodyPost_ret (v := .agg #[.slice a' nv c', .slice aL l.length cL]) ?_ rfl ⟨_, rfl, HR.out, HBB.out⟩
  simp only [results, Try.results47]
  go_simp
set_option maxRecDepth 100000 in
set_option maxHeartbeats 2000000 in
theorem hold14_yes (aH : Option Addr) (h : List Wc) (cH : Nat) (aL : Option Addr) (l : List Wc) (cL : Nat) (c : Wc) (hl : h.length ≤ 90000) (hm : RowQ W (.slice aH h.length cH) h) {p : Nat} (hp : p < h.length) (hf : findL c.ow c.k h = (p : Int)) :
    Calls Try.prog 47 #[tabV aH h cH aL l cL, .agg #[.int .i64 c.ow, .string c.k, .bool c.wr]] W (HdP W (.slice aL l.length cL) (h.take p ++ c :: h.drop (p + 1))) := by
  have HT := Lib.hid (th_new W (.slice aH h.length cH) (.slice aL l.length cL) c)
  have hb0 : Below W.heap.size W (((W.alloc (.cells #[.slice aH h.length cH, .slice aL l.length cL] 29)).alloc (.cells #[.int .i64 c.ow, .string c.k, .bool c.wr] 67)).alloc (.cells #[.slice none 0 0, .slice none 0 0] 29)) := (((Below.refl _ _).alloc (Nat.le_refl _) _).alloc (by rw [World.size_alloc]; omega) _).alloc (by rw [World.size_alloc, World.size_alloc]; omega) _
  have HM := Lib.hid (hm.below hb0)
  have HB := Lib.hid hb0
  have hli : (h.length : Int) ≤ 90000 := by omega
  have HF := Lib.hid hf
  clear hm hb0 hf
  unfold tabV
  go_enter Try.func47, Try.ntmps47
  go_upto_region 1 with fail
  generalize (((W.alloc (.cells #[.slice aH h.length cH, .slice aL l.length cL] 29)).alloc (.cells #[.int .i64 c.ow, .string c.k, .bool c.wr] 67)).alloc (.cells #[.slice none 0 0, .slice none 0 0] 29)) = Y at *
  have t0 := HT.out.t0
  have c0 := HT.out.c0
  have c1 := HT.out.c1
  have c2 := HT.out.c2
  obtain ⟨aH2, cH2, hvH, hwH⟩ := HM.out.form
  injection hvH with hv1 _ hv3
  subst hv1 hv3
  have KF := Lib.hid (find_any (W := Y) aH h cH c.ow c.k (by omega) hwH)
  rw [HF.out] at KF
  have hbd : Below Y.heap.size Y Y.drew := (Below.refl _ _).drew
  have HTD := Lib.hid (HT.out.below hbd)
  have HBD := Lib.hid hbd
  have KN := Lib.hid (without14_row (W := Y.drew) (HM.out.below hbd) p (by omega) hp)
  have g0 := HTD.out.t0
  have g1 := HTD.out.c0
  have g2 := HTD.out.c1
  have g3 := HTD.out.c2
  have el : (h.take p ++ h.drop (p + 1)).length ≤ 100000 := by rw [List.length_append, List.length_take, List.length_drop]; omega
  have ep : p ≤ (h.take p ++ h.drop (p + 1)).length := by rw [List.length_append, List.length_take, List.length_drop]; omega
  have e1 : (h.take p).length = p := by rw [List.length_take]; omega
  have HTK : Hid ((h.take p ++ h.drop (p + 1)).take p = h.take p) := List.take_left' e1
  have HDP : Hid ((h.take p ++ h.drop (p + 1)).drop p = h.drop (p + 1)) := List.drop_left' e1
  have hpi : (0 : Int) ≤ (p : Int) := Int.natCast_nonneg _
  clear hwH e1 hbd
  go_wp2_with fail
  refine KF.out.mono ?_
  rintro e w ⟨rfl, rfl⟩
  clear KF
  go_upto_region 3 with fail
  go_region_law (first | (go_simp; go_at_call 52; (with_reducible refine KN.out.mono ?_); rintro x w1 ⟨v1, rfl, hr1, hb1⟩; have HR1 := Lib.hid hr1; have HB1 := Lib.hid hb1; have HT1 := HTD.out.below hb1; have HT1H := Lib.hid HT1; have d0 := HT1.c0; have d1 := HT1.c1; have d2 := HT1.c2; clear hr1 hb1 HT1; go_simp) | (go_simp; go_at_call 48; (with_reducible refine (with14_row HR1.out.q p c el ep).mono ?_); rintro x w2 ⟨v2, rfl, hr2, hb2⟩; rw [HTK.out, HDP.out] at hr2; obtain ⟨a', c', hv, -⟩ := hr2.at; generalize (h.take p ++ c :: h.drop (p + 1)).length = nv at hv; subst hv; have HR2 := Lib.hid hr2; have HB2 := Lib.hid hb2; have HT2 := Lib.hid (HT1H.out.below hb2); have x0 := HT2.out.t0; have f0 := HT2.out.f0; clear hr2 hb2; go_simp))
  all_goals
    have hb1 : Below Y.heap.size Y w1 := HBD.out.trans (HB1.out.mono HBD.out.size)
    have hb : Below Y.heap.size Y w2 := hb1.trans (HB2.out.mono hb1.size)
    have hr : RowW w2 Y.heap.size (.slice a' nv c') (h.take p ++ c :: h.drop (p + 1)) := HR2.out.mono hb1.size
    have HT1 := HT2.out
    have hNs := HT.out.sz
    have x1 := HT1.t1
    have f2 : ∀ i, (w2.setCell ⟨W.heap.size, 0, none⟩ (.slice a' nv c')).frozen? ⟨W.heap.size + 1 + 1, i, none⟩ = false := fun i => by rw [World.frozen?_setCell]; exact HT1.f2 i
    have f3 : ∀ i, ((w2.setCell ⟨W.heap.size, 0, none⟩ (.slice a' nv c')).setCell ⟨W.heap.size + 1 + 1, 0, none⟩ (.slice a' nv c')).frozen? ⟨W.heap.size + 1 + 1, i, none⟩ = false := fun i => by rw [World.frozen?_setCell]; exact f2 i
    have y0 : (w2.setCell ⟨W.heap.size, 0, none⟩ (.slice a' nv c')).cell? ⟨W.heap.size, 0, none⟩ = some (.slice a' nv c') := sc_eq HT1.t0
    have y1 : (w2.setCell ⟨W.heap.size, 0, none⟩ (.slice a' nv c')).cell? ⟨W.heap.size, 1, none⟩ = some (.slice aL l.length cL) := sc_ne HT1.t1 (.inr (by decide))
    have z0 : (w2.setCell ⟨W.heap.size, 0, none⟩ (.slice a' nv c')).cell? ⟨W.heap.size + 1 + 1, 0, none⟩ = some (.slice none 0 0) := sc_ne HT1.r0 (.inl (by omega))
    have z1 : (w2.setCell ⟨W.heap.size, 0, none⟩ (.slice a' nv c')).cell? ⟨W.heap.size + 1 + 1, 1, none⟩ = some (.slice none 0 0) := sc_ne HT1.r1 (.inl (by omega))
    have q0 : ((w2.setCell ⟨W.heap.size, 0, none⟩ (.slice a' nv c')).setCell ⟨W.heap.size + 1 + 1, 0, none⟩ (.slice a' nv c')).cell? ⟨W.heap.size + 1 + 1, 0, none⟩ = some (.slice a' nv c') := sc_eq z0
    have q1 : ((w2.setCell ⟨W.heap.size, 0, none⟩ (.slice a' nv c')).setCell ⟨W.heap.size + 1 + 1, 0, none⟩ (.slice a' nv c')).cell? ⟨W.heap.size + 1 + 1, 1, none⟩ = some (.slice none 0 0) := sc_ne z1 (.inr (by decide))
    have p0 : (((w2.setCell ⟨W.heap.size, 0, none⟩ (.slice a' nv c')).setCell ⟨W.heap.size + 1 + 1, 0, none⟩ (.slice a' nv c')).setCell ⟨W.heap.size + 1 + 1, 1, none⟩ (.slice aL l.length cL)).cell? ⟨W.heap.size + 1 + 1, 0, none⟩ = some (.slice a' nv c') := sc_ne q0 (.inr (by decide))
    have p1 : (((w2.setCell ⟨W.heap.size, 0, none⟩ (.slice a' nv c')).setCell ⟨W.heap.size + 1 + 1, 0, none⟩ (.slice a' nv c')).setCell ⟨W.heap.size + 1 + 1, 1, none⟩ (.slice aL l.length cL)).cell? ⟨W.heap.size + 1 + 1, 1, none⟩ = some (.slice aL l.length cL) := sc_eq q1
    have hr3 : RowW (((w2.setCell ⟨W.heap.size, 0, none⟩ (.slice a' nv c')).setCell ⟨W.heap.size + 1 + 1, 0, none⟩ (.slice a' nv c')).setCell ⟨W.heap.size + 1 + 1, 1, none⟩ (.slice aL l.length cL)) Y.heap.size (.slice a' nv c') (h.take p ++ c :: h.drop (p + 1)) := rowW_set (rowW_set (rowW_set hr _ _ (by show W.heap.size < _; omega)) _ _ hNs) _ _ hNs
    have HR := Lib.hid (show RowW _ W.heap.size (.slice a' nv c') (h.take p ++ c :: h.drop (p + 1)) from ⟨hr3.1, hr3.2.imp id fun ⟨g, cap, cur, u1, u2, u3⟩ => ⟨g, cap, cur, u1, Nat.le_trans HB.out.size u2, u3⟩⟩)
    have HBB := Lib.hid ((((HB.out.trans (hb.mono HB.out.size)).setCell (p := ⟨W.heap.size, 0, none⟩) (Nat.le_refl _) (.slice a' nv c')).setCell (p := ⟨W.heap.size + 1 + 1, 0, none⟩) (Nat.le_trans (Nat.le_succ _) (Nat.le_succ _)) (.slice a' nv c')).setCell (p := ⟨W.heap.size + 1 + 1, 1, none⟩) (Nat.le_trans (Nat.le_succ _) (Nat.le_succ _)) (.slice aL l.length cL))
    clear hr hr3 hb hb1 HT1 hNs
    go_wp2
    refine bodyPost_ret (v := .agg #[.slice a' nv c', .slice aL l.length cL]) ?_ rfl ⟨_, rfl, HR.out, HBB.out⟩
    simp only [results, Try.results47]
    go_simp
end
end Go.Proofs.Ytjojempjmpaaaaa

namespace Go.Proofs.Ytjojempjmpaaaaa
open Go.RowKit
/-- A table and an answer in two blocks of a call's own. -/
structure TR (X : World) (N : Nat) (vh vl : Value) : Prop where
  t0 : X.cell? ⟨N, 0, none⟩ = some vh
  t1 : X.cell? ⟨N, 1, none⟩ = some vl
  r0 : X.cell? ⟨N + 1, 0, none⟩ = some (.slice none 0 0)
  r1 : X.cell? ⟨N + 1, 1, none⟩ = some (.slice none 0 0)
  f0 : ∀ i, X.frozen? ⟨N, i, none⟩ = false
  f1 : ∀ i, X.frozen? ⟨N + 1, i, none⟩ = false
  sz : N + 1 < X.heap.size
theorem TR.below {X Y : World} {N : Nat} {vh vl : Value} (h : TR X N vh vl) (hb : Below X.heap.size X Y) : TR Y N vh vl :=
  have s := h.sz
  ⟨keep_cell hb h.t0, keep_cell hb h.t1, keep_cell hb h.r0, keep_cell hb h.r1, fun i => (hb.frozen (by show N < _; omega)).trans (h.f0 i), fun i => (hb.frozen (by show N + 1 < _; omega)).trans (h.f1 i), Nat.lt_of_lt_of_le s hb.size⟩
theorem tr_new (W : World) (vh vl : Value) : TR ((W.alloc (.cells #[vh, vl] 29)).alloc (.cells #[.slice none 0 0, .slice none 0 0] 29)) W.heap.size vh vl := by
  have s1 : (W.alloc (.cells #[vh, vl] 29)).heap.size = W.heap.size + 1 := World.size_alloc _ _
  have b2 := (Below.refl (W.alloc (.cells #[vh, vl] 29)).heap.size (W.alloc (.cells #[vh, vl] 29))).alloc (Nat.le_refl _) (.cells #[.slice none 0 0, .slice none 0 0] 29)
  refine ⟨keep_cell b2 (new_cell rfl rfl), keep_cell b2 (new_cell rfl rfl), new_cell s1.symm rfl, new_cell s1.symm rfl, fun i => ?_, fun i => World.frozen?_alloc_at _ _ _ _ s1.symm, ?_⟩
  · exact (b2.frozen (by rw [s1]; show W.heap.size < _; omega)).trans (World.frozen?_alloc_at _ _ _ _ rfl)
  · rw [World.size_alloc, s1]; omega
/-- A claim in a block of a call's own. -/
structure CL (X : World) (M : Nat) (c : Wc) : Prop where
  c0 : X.cell? ⟨M, 0, none⟩ = some (.int .i64 c.ow)
  c1 : X.cell? ⟨M, 1, none⟩ = some (.string c.k)
  c2 : X.cell? ⟨M, 2, none⟩ = some (.bool c.wr)
theorem CL.below {X Y : World} {M : Nat} {c : Wc} (h : CL X M c) (hb : Below X.heap.size X Y) : CL Y M c := ⟨keep_cell hb h.c0, keep_cell hb h.c1, keep_cell hb h.c2⟩
section
variable {W : World}
theorem hold14_any (aH : Option Addr) (h : List Wc) (cH : Nat) (aL : Option Addr) (l : List Wc) (cL : Nat) (c : Wc) (hl : h.length ≤ 90000) (hm : RowQ W (.slice aH h.length cH) h) :
    Calls Try.prog 47 #[tabV aH h cH aL l cL, .agg #[.int .i64 c.ow, .string c.k, .bool c.wr]] W (HdP W (.slice aL l.length cL) (holdR c h)) := by
  rcases findL_cases c.ow c.k h with ⟨e, h0⟩ | ⟨p, hp, e, h0, h1⟩
  · rw [holdR_no h0]; exact hold14_no aH h cH aL l cL c hl hm e
  · rw [holdR_at hp h0 h1]; exact hold14_yes aH h cH aL l cL c hl hm hp e
variable {H L : List Wc} {o : Int} {k : ByteArray} {b : Bool}
theorem ask2_1 (h : o < 0) : ask2 H L o k b = (H, L, 1) := by unfold ask2; rw [if_pos h]
theorem ask2_2 (h : ¬ o < 0) (h2 : 0 ≤ placeL (isOw o) L) : ask2 H L o k b = (H, L, 12) := by unfold ask2; rw [if_neg h, if_pos h2]
theorem ask2_3 (h : ¬ o < 0) (h2 : ¬ 0 ≤ placeL (isOw o) L) {p : Nat} (hp : p < H.length) (hf : findL o k H = (p : Int)) (h3 : H[p].wr = true ∨ b = false) : ask2 H L o k b = (H, L, 0) := by
  unfold ask2
  rw [if_neg h, if_neg h2, if_pos ⟨by rw [hf]; exact Int.natCast_nonneg _, by rw [hf, Int.toNat_natCast, getD_at hp]; exact h3⟩]
theorem ask2_45 (h : ¬ o < 0) (h2 : ¬ 0 ≤ placeL (isOw o) L) {p : Nat} (hp : p < H.length) (hf : findL o k H = (p : Int)) (h3 : H[p].wr = false) (h4 : b = true) : ask2 H L o k b = if freeR H ⟨k, b, o⟩ = true then (holdR ⟨k, b, o⟩ H, L, 0) else (H, L.take (atR H L k) ++ ⟨k, b, o⟩ :: L.drop (atR H L k), 10) := by
  have hp0 : 0 ≤ findL o k H := by rw [hf]; exact Int.natCast_nonneg _
  unfold ask2
  rw [if_neg h, if_neg h2, if_neg (fun q => by
    have q2 := q.2
    rw [hf, Int.toNat_natCast, getD_at hp, h3, h4] at q2
    rcases q2 with q2 | q2 <;> cases q2), if_pos hp0]
  by_cases e : freeR H ⟨k, b, o⟩ = true
  · rw [if_pos ⟨e, .inl hp0⟩, if_pos e]
  · rw [if_neg (fun q => e q.1), if_neg e]
theorem ask2_67 (h : ¬ o < 0) (h2 : ¬ 0 ≤ placeL (isOw o) L) (hf : findL o k H = -1) : ask2 H L o k b = if freeR H ⟨k, b, o⟩ = true ∧ L.filter (isK k) = [] then (holdR ⟨k, b, o⟩ H, L, 0) else (H, L.take L.length ++ ⟨k, b, o⟩ :: L.drop L.length, 10) := by
  have hp0 : ¬ 0 ≤ findL o k H := by rw [hf]; omega
  unfold ask2
  rw [if_neg h, if_neg h2, if_neg (fun q => hp0 q.1), if_neg hp0]
  by_cases e : freeR H ⟨k, b, o⟩ = true ∧ L.filter (isK k) = []
  · rw [if_pos ⟨e.1, .inr e.2⟩, if_pos e]
  · rw [if_neg (fun q => e ⟨q.1, q.2.resolve_left hp0⟩), if_neg e]
/-- What Ask answers. -/
def AskE (W : World) (vh0 vl0 : Value) (H L : List Wc) (o : Int) (k : ByteArray) (b : Bool) (e : Ending) (W' : World) : Prop :=
  ∃ vh vl, e = .returned (.tuple #[.agg #[vh, vl], .int .i64 (ask2 H L o k b).2.2]) ∧ RowQ W' vh (ask2 H L o k b).1 ∧ RowQ W' vl (ask2 H L o k b).2.1 ∧ (vh.ownBlock = none ∨ vh = vh0 ∨ ∃ g, vh.ownBlock = some g ∧ W.heap.size ≤ g) ∧ (vl.ownBlock = none ∨ vl = vl0 ∨ ∃ g, vl.ownBlock = some g ∧ W.heap.size ≤ g) ∧ Below W.heap.size W W'
/-- What the table's row, and what is stored into the answer, look like. -/
theorem TR.fin {X : World} {N : Nat} {vh vl : Value} (h : TR X N vh vl) :
    (X.setCell ⟨N + 1, 0, none⟩ vh).cell? ⟨N + 1, 1, none⟩ = some (.slice none 0 0) ∧ (∀ i, (X.setCell ⟨N + 1, 0, none⟩ vh).frozen? ⟨N + 1, i, none⟩ = false) ∧ ((X.setCell ⟨N + 1, 0, none⟩ vh).setCell ⟨N + 1, 1, none⟩ vl).cell? ⟨N + 1, 0, none⟩ = some vh ∧ ((X.setCell ⟨N + 1, 0, none⟩ vh).setCell ⟨N + 1, 1, none⟩ vl).cell? ⟨N + 1, 1, none⟩ = some vl := by
  have z1 : (X.setCell ⟨N + 1, 0, none⟩ vh).cell? ⟨N + 1, 1, none⟩ = some (.slice none 0 0) := sc_ne h.r1 (.inr (by decide))
  have q0 : (X.setCell ⟨N + 1, 0, none⟩ vh).cell? ⟨N + 1, 0, none⟩ = some vh := sc_eq h.r0
  exact ⟨z1, fun i => by rw [World.frozen?_setCell]; exact h.f1 i, sc_ne q0 (.inr (by decide)), sc_eq z1⟩
theorem TR.bel {X : World} {N : Nat} {vh vl : Value} (hb : Below N W X) : Below N W ((X.setCell ⟨N + 1, 0, none⟩ vh).setCell ⟨N + 1, 1, none⟩ vl) :=
  (hb.setCell (p := ⟨N + 1, 0, none⟩) (Nat.le_succ _) vh).setCell (p := ⟨N + 1, 1, none⟩) (Nat.le_succ _) vl
theorem TR.row {X : World} {N B : Nat} {vh vl v : Value} {l : List Wc} (h : RowW X B v l) (hg : ∀ g, v.ownBlock = some g → g ≠ N + 1) : RowW ((X.setCell ⟨N + 1, 0, none⟩ vh).setCell ⟨N + 1, 1, none⟩ vl) B v l :=
  ownsRow_of h (fun g e => (Below.heap_setCell _ _ _ _ (fun c => hg g e c)).trans (Below.heap_setCell _ _ _ _ (fun c => hg g e c)))
end
end Go.Proofs.Ytjojempjmpaaaaa
