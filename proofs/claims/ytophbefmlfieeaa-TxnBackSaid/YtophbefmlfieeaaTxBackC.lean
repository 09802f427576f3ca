/-
  TxnBack's contracts: Back to a place, Get; a change that is taken back.
-/
import Derived.Test.YtophbefmlfieeaaTxBackP
namespace Go.Proofs.Ytophbefmlfieeaa
open Go.RowKit
section
variable {W : World} {B t M n N : Nat} {m : Int → Option (Nat × KnD)}
set_option maxRecDepth 100000 in
set_option maxHeartbeats 4000000 in
theorem tback_noplace (h : TbAt W B t M n m) (i : Int) (hi : (Lit.int .i64 i).wf = true) {K : Nat} {d : KnD} (hm : m i = some (K, d)) (hst : d.st = 1) (hpl : d.pl.length ≤ 100000)
    (no : Int) (b : Nat) (c : Nat) (hno : W.cell? ⟨b, 0, none⟩ = some (.int .i64 no)) (hp : placeM d.pl no = none) :
    Calls Try.prog 14 #[.pointer (some ⟨t, 0, none⟩), .int .i64 i, .slice (some ⟨b, 0, none⟩) 1 c] W fun x w' => x = .returned (.tuple #[.slice none 0 0, .int .i64 7]) ∧ Below W.heap.size W w' := by
  have KM := Lib.hid (made_yes h.ct)
  have hk := h.kn i K d hm
  have ct := h.ct
  have k4 := hk.c4
  rw [hst] at k4
  have lk := look_some h i hi hm
  have KP := place_any hk no hpl
  rw [hp] at KP
  have KP := Lib.hid KP
  clear hk h hm hst hp
  go_enter Try.func14, Try.ntmps14
  go_wp2_with fail
  refine KM.out.mono ?_
  rintro x w1 ⟨rfl, rfl⟩
  go_wp2_with fail
  refine KP.out.mono ?_
  rintro x w2 ⟨rfl, hb⟩
  have HB := Lib.hid hb
  clear hb
  go_wp2
  refine bodyPost_ret (v := .tuple #[.slice none 0 0, .int .i64 7]) ?_ rfl ⟨rfl, ?_⟩
  · simp [results, Try.results14, go_sem]
  · first | exact HB.out | exact HB.out.alloc HB.out.size _
/-- What Back to a place tells. -/
def BackQ (W : World) (A : Int → Option KS) (i no : Int) (x : Ending) (w' : World) : Prop :=
  ∃ a c e l, x = .returned (.tuple #[.slice a (List.length l) c, .int .i64 e]) ∧ RecR w' W.heap.size (.slice a l.length c) l ∧ Below W.heap.size W w' ∧ (e = 0 → ∃ d p1 ch, A i = some d ∧ d.st = 1 ∧ placeM d.pl no = some (p1, ((ch : Nat) : Int)) ∧ ch ≤ d.cl.length ∧ l = (d.cl.drop ch).reverse) ∧
    ∀ d p1 ch, A i = some d → d.st = 1 → placeM d.pl no = some (p1, ((ch : Nat) : Int)) → ch ≤ d.cl.length → e = 0
theorem tback_q (h : TbAt W B t M n m) (i : Int) (hi : (Lit.int .i64 i).wf = true) (hI : ∀ j d, absM m j = some d → Bnd 1000 d) (hP : ∀ d, absM m i = some d → ∀ p ∈ d.pl, 0 ≤ p.2 ∧ p.2 ≤ (d.cl.length : Int)) (no : Int) (b c : Nat) (hno : W.cell? ⟨b, 0, none⟩ = some (.int .i64 no)) :
    Calls Try.prog 14 #[.pointer (some ⟨t, 0, none⟩), .int .i64 i, .slice (some ⟨b, 0, none⟩) 1 c] W (BackQ W (absM m) i no) := by
  cases hA : absM m i with
  | none =>
    refine (tback_none h i hi (absM_none hA) _ 1 c).mono ?_
    rintro x w' ⟨rfl, rfl⟩
    exact ⟨none, 0, 7, [], rfl, World.ownsRow_nil _ _ _ _, Below.refl _ _, fun e => by (cases e), fun d p1 ch e => by (rw [hA] at e; cases e)⟩
  | some d =>
    have hbd := hI i d hA
    have hpp := hP d hA
    obtain ⟨K, D, hm, rfl⟩ := absM_some hA
    have h1 : D.cl.length ≤ 1000 := hbd.1
    have h2 : D.pl.length ≤ 1000 := hbd.2
    by_cases hst : D.st = 1
    · cases hp : placeM D.pl no with
      | none =>
        refine (tback_noplace h i hi hm hst (by omega) no b c hno hp).mono ?_
        rintro x w' ⟨rfl, hb⟩
        refine ⟨none, 0, 7, [], rfl, World.ownsRow_nil _ _ _ _, hb, fun e => by (cases e), fun d p1 ch e _ e2 => ?_⟩
        rw [hA] at e
        injection e with e
        subst e
        rw [show D.s.pl = D.pl from rfl, hp] at e2
        cases e2
      | some p =>
        obtain ⟨p1, p2⟩ := p
        have hmem : (p1, p2) ∈ D.pl := by
          have := List.mem_of_find?_eq_some hp
          exact List.mem_reverse.1 this
        have hpr := hpp _ hmem
        obtain ⟨ch, rfl⟩ : ∃ ch : Nat, p2 = (ch : Int) := ⟨p2.toNat, by have := hpr.1; simp at this; omega⟩
        have hch : ch ≤ D.cl.length := by
          have := hpr.2
          have e : D.s.cl = D.cl := rfl
          rw [e] at this
          simp only at this
          omega
        refine (tback_place h i hi hm hst (by omega) (by omega) no b 0 0 c (by omega) hno hp hch).mono ?_
        rintro x w' ⟨v, rfl, hr, hb⟩
        obtain ⟨a, c', rfl⟩ := hr.slice
        exact ⟨a, c', 0, _, rfl, hr, hb, fun _ => ⟨D.s, p1, ch, hA, hst, hp, hch, rfl⟩, fun _ _ _ _ _ _ _ => rfl⟩
    · refine (tback_state h i hi hm hst _ 1 c).mono ?_
      rintro x w' ⟨rfl, rfl⟩
      refine ⟨none, 0, 12, [], rfl, World.ownsRow_nil _ _ _ _, Below.refl _ _, fun e => by (cases e), fun d p1 ch e e1 => ?_⟩
      rw [hA] at e
      injection e with e
      subst e
      exact absurd e1 hst
/-- What Get tells. -/
def GetQ (W : World) (A : Int → Option KS) (i : Int) (x : Ending) (w' : World) : Prop :=
  ∃ (i0 i1 i2 i3 i4 : Int) (ca pa : Option Addr) (cc pc nc np : Nat),
    x = .returned (.tuple #[.agg #[.int .i64 i0, .int .i64 i1, .int .i64 i2, .int .i64 i3, .int .i64 i4, .slice ca nc cc, .slice pa np pc], .bool (okA A i)]) ∧ Below W.heap.size W w' ∧ ∀ d, A i = some d → i3 = d.last ∧ nc = d.cl.length
theorem tget_q (h : TbAt W B t M n m) (i : Int) (hi : (Lit.int .i64 i).wf = true) (hI : ∀ j d, absM m j = some d → Bnd 1000 d) :
    Calls Try.prog 20 #[.pointer (some ⟨t, 0, none⟩), .int .i64 i] W (GetQ W (absM m) i) := by
  cases hA : absM m i with
  | none =>
    refine (tget_none h i hi (absM_none hA)).mono ?_
    rintro x w' ⟨rfl, hb⟩
    exact ⟨0, 0, 0, 0, 0, none, none, 0, 0, 0, 0, by unfold okA zTx; rw [hA]; rfl, hb, fun d e => by rw [hA] at e; cases e⟩
  | some d =>
    have hbd := hI i d hA
    obtain ⟨K, D, hm, rfl⟩ := absM_some hA
    have h1 : D.cl.length ≤ 1000 := hbd.1
    have h2 : D.pl.length ≤ 1000 := hbd.2
    refine (tget_some h i hi hm (by omega) (by omega)).mono ?_
    rintro x w' ⟨v, rfl, cv, pv, hv, hr, hp, hs, hb⟩
    injection hv with hv
    subst hv
    obtain ⟨ca, cc, rfl⟩ := hr.slice
    obtain ⟨pa, pc, rfl⟩ := hp.slice
    exact ⟨_, _, _, _, _, ca, pa, cc, pc, _, _, by unfold okA; rw [hA]; rfl, hb, fun d e => by
      rw [hA] at e
      injection e with e
      subst e
      exact ⟨rfl, rfl⟩⟩
end
/-! ### one is taken back -/
/-- Behind i of those that are taken back. -/
structure BkAt (A : Int → Option KS) (id no : Int) (D : KS) (p1 : Int) (ch i : Nat) : Prop where
  ex : ∃ d, A id = some d ∧ d.st = 1 ∧ d.last = D.last + (i : Int) ∧ d.cl = D.cl.take (D.cl.length - i) ∧ placeM d.pl no = some (p1, (ch : Int)) ∧ BackK id d (60 + i)
  bnd : ∀ j d, A j = some d → Bnd 1000 d
/-- The record that takes c back. -/
def bkRc (D : KS) (id : Int) (c : Rc) (i : Nat) : Rc := ⟨3, D.last + 1 + (i : Int), id, D.last + (i : Int), c.pg, c.key, c.ha, c.sa, c.hb, c.sb, c.g⟩
theorem bk_step {A : Int → Option KS} {id no : Int} {D : KS} {p1 : Int} {ch i : Nat} (h : BkAt A id no D p1 ch i) (hD : BackK id D 60) (hch : ch ≤ D.cl.length) (hlast : D.last ≤ 2305843009213693952) (hi : i < D.cl.length - ch) :
    (noteA 0 A (bkRc D id (D.cl.getD (D.cl.length - 1 - i) noRc) i)).1 = 0 ∧ BkAt (noteA 0 A (bkRc D id (D.cl.getD (D.cl.length - 1 - i) noRc) i)).2 id no D p1 ch (i + 1) := by
  obtain ⟨⟨d, hA, hst, hla, hcl, hpl, hK⟩, hb⟩ := h
  have hlen : D.cl.length ≤ 60 := hD.cl
  have hlt : D.cl.length - 1 - i < D.cl.length := by omega
  have hcm : D.cl.getD (D.cl.length - 1 - i) noRc ∈ D.cl := by
    rw [List.getD_eq_getElem?_getD, List.getElem?_eq_getElem hlt]
    exact List.getElem_mem hlt
  have hl1 := hD.last
  obtain ⟨q1, q2, q3, q4, q5⟩ := hD.chg _ hcm
  have hsp : d.cl = D.cl.take (D.cl.length - 1 - i) ++ [D.cl.getD (D.cl.length - 1 - i) noRc] := by
    rw [hcl, show D.cl.length - i = (D.cl.length - 1 - i) + 1 by omega, List.take_add_one, List.getElem?_eq_getElem hlt, List.getD_eq_getElem?_getD, List.getElem?_eq_getElem hlt]
    rfl
  generalize D.cl.getD (D.cl.length - 1 - i) noRc = c at *
  have hok : Rc.ok (bkRc D id c i) = true := by
    have := ok_back (c := c) (gsn := D.last + 1 + (i : Int)) (prev := D.last + (i : Int)) q1 q2 (by omega) (by omega) (by omega) (by omega)
    rw [q3] at this
    exact this
  have htk : tkb d.cl (bkRc D id c i) = true := by
    rw [hsp]
    unfold tkb
    rw [List.getLast?_concat]
    simp only
    rw [eqB_iff]
    have := ok_back (c := c) (gsn := D.last + 1 + (i : Int)) (prev := D.last + (i : Int)) q1 q2 (by omega) (by omega) (by omega) (by omega)
    unfold backRc bkRc
    rw [if_pos (by
      simp only [Bool.and_eq_true]
      exact ⟨⟨by rw [q1]; rfl, q2⟩, this⟩), q3]
  have hdl : d.cl.dropLast = D.cl.take (D.cl.length - 1 - i) := by rw [hsp]; simp
  have hS : noteS d (bkRc D id c i) = (0, { d with last := D.last + 1 + (i : Int), cl := d.cl.dropLast, pl := cutPl d.pl (d.cl.dropLast.length : Int) }) := by
    unfold noteS
    rw [if_pos hst, if_pos (show (bkRc D id c i).p = d.last from hla.symm), if_neg (by simp [bkRc]), if_pos (show (bkRc D id c i).k = 3 from rfl), if_pos htk]
    rfl
  have hN : noteA 0 A (bkRc D id c i) = (0, updA A id { d with last := D.last + 1 + (i : Int), cl := d.cl.dropLast, pl := cutPl d.pl (d.cl.dropLast.length : Int) }) := by
    unfold noteA
    rw [if_pos hok, show A (bkRc D id c i).t = some d from hA]
    simp only
    rw [if_neg (by simp [bkRc]), hS]
    rfl
  have hBK : BackK id { d with last := D.last + 1 + (i : Int), cl := d.cl.dropLast, pl := cutPl d.pl (d.cl.dropLast.length : Int) } (60 + (i + 1)) := by
    have := noteS_back (id := id) (i := 60 + i) hok rfl ⟨q5.1, q5.2.2, q5.2.1⟩ hK
    rw [hS] at this
    exact this
  have hPM : placeM (cutPl d.pl (d.cl.dropLast.length : Int)) no = some (p1, (ch : Int)) := cutPl_place hpl (by
    rw [hdl, List.length_take]
    omega)
  have hCL : d.cl.dropLast = D.cl.take (D.cl.length - (i + 1)) := by
    rw [hdl]
    congr 1
    omega
  have hcl2 : d.cl.dropLast.length ≤ 1000 := by
    have h1 := (hb id d hA).1
    rw [List.length_dropLast]
    omega
  have hpl2 : (cutPl d.pl (d.cl.dropLast.length : Int)).length ≤ 1000 := Nat.le_trans (cutPl_len _ _) (hb id d hA).2
  obtain ⟨d2, hd2⟩ : ∃ d2 : KS, d2 = { d with last := D.last + 1 + (i : Int), cl := d.cl.dropLast, pl := cutPl d.pl (d.cl.dropLast.length : Int) } := ⟨_, rfl⟩
  rw [← hd2] at hN hBK
  rw [hN]
  refine ⟨rfl, ⟨d2, by show updA A id d2 id = _; unfold updA; rw [if_pos rfl], by rw [hd2]; exact hst, ?_, by rw [hd2]; exact hCL, by rw [hd2]; exact hPM, hBK⟩, fun j x hx => ?_⟩
  · rw [hd2]
    show D.last + 1 + (i : Int) = D.last + ((i + 1 : Nat) : Int)
    omega
  · rcases updA_some hx with ⟨_, rfl⟩ | q
    · rw [hd2]
      exact ⟨hcl2, hpl2⟩
    · exact hb j x q
end Go.Proofs.Ytophbefmlfieeaa
