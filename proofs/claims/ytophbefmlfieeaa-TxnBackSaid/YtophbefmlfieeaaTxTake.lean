/-
  THE CONTRACT OF takeBack: the last change is gone, and the places behind it.
-/
import Derived.Test.YtophbefmlfieeaaTxTkb
import Derived.Test.YtophbefmlfieeaaTxPlace
namespace Go.Proofs.Ytophbefmlfieeaa
open Go.RowKit
/-- Which places are left. -/
structure PlCut (pl : List Plc) (left : Int) (n : Nat) : Prop where
  le : n ≤ pl.length
  gone : ∀ i, n ≤ i → i < pl.length → left < (pl.getD i noPl).2
/-- What takeBack leaves. -/
structure TbkP (W : World) (B K : Nat) (d : KnD) (l : List Rc) (w' : World) : Prop where
  all : ∃ n cv pv, PlCut d.pl l.length n ∧ (0 < n → ¬ (l.length : Int) < (d.pl.getD (n - 1) noPl).2) ∧ KnIs w' B K { d with cv := cv, cl := l, pv := pv, pl := d.pl.take n } ∧ cv.ownBlock = d.cv.ownBlock ∧ pv.ownBlock = d.pv.ownBlock ∧ FrKn W w' K d.cv d.pv
theorem own_refl (W : World) (r : Option Nat) : W.grownBy W r := ⟨rfl, rfl, rfl, Nat.le_refl _, fun _ _ _ => rfl⟩
section
variable {W : World} {B K : Nat} {d : KnD}
set_option maxRecDepth 100000 in
set_option maxHeartbeats 4000000 in
theorem takeBack_any (h : KnIs W B K d) {l : List Rc} {c : Rc} (hz : d.cl = l ++ [c]) (hl : l.length ≤ 100000) (hpl : d.pl.length ≤ 100000) :
    Calls Try.prog 67 #[.pointer (some ⟨K, 0, none⟩)] W fun x w' => x = .returned (.tuple #[]) ∧ TbkP W B K d l w' := by
  obtain ⟨id, home, first, last, st, cv, cl, pv, pl⟩ := d
  simp only at hz hpl
  subst hz
  obtain ⟨gg, nn, cc, e⟩ := h.cr.some (by simp)
  simp only at e
  subst e
  have hcr := h.cr
  simp only at hcr
  have hnn : nn = l.length + 1 ∧ l.length + 1 ≤ cc := by
    rcases hcr.form with ⟨e, _⟩ | ⟨_, _, e, e2, _⟩
    · cases e
    · injection e with _ e e3
      rw [List.length_append] at e e2
      exact ⟨e, by simp at e2; omega⟩
  obtain ⟨hnn, hcc⟩ := hnn
  subst hnn
  have KD := del_last (i := l.length) (j := l.length + 1) (by simpa using hcr) hcc rfl rfl
  rw [show ((l.length + 1 : Nat) : Int) = (l.length : Int) + 1 by omega] at KD
  have KD := Lib.hid KD
  have H := Lib.hid h
  have k5 := h.c5
  simp only at k5
  have hi : IntKind.i64.wrap (l.length : Int) = (l.length : Int) := by
    rw [IntKind.wrap_i64]; omega
  have hi2 : IntKind.i64.wrap ((l.length : Int) + 1 - 1) = (l.length : Int) := by rw [IntKind.wrap_i64]; omega
  have hi3 : IntKind.i64.wrap ((l.length : Int) + 1) = (l.length : Int) + 1 := by rw [IntKind.wrap_i64]; omega
  have HL := Lib.hid hl
  clear h hcr hcc hl
  go_enter Try.func67, Try.ntmps67
  go_wp2_with fail
  refine KD.out.mono ?_
  rintro x w2 ⟨rfl, hr2, hg2⟩
  have n5 := H.out.row5 hg2
  have n5f := H.out.row5f hg2
  simp only at n5
  have T2 := Lib.hid (H.out.putC hr2 hg2 (.inl rfl))
  have F2 := Lib.hid (((FrKn.refl W K (.slice (some ⟨gg, 0, none⟩) (l.length + 1) cc) pv).grow hg2 (fun k hk => .inl hk)).set (i := 5) (u := .slice (some ⟨gg, 0, none⟩) l.length cc))
  clear hr2 hg2 KD k5 H hi3
  go_upto_region 2 with fail
  generalize w2.setCell ⟨K, 5, none⟩ (.slice (some ⟨gg, 0, none⟩) l.length cc) = V at *
  clear n5 n5f
  obtain ⟨pa, pc, e⟩ := T2.out.pr.slice
  simp only at e
  subst e
  have k6 := T2.out.c6
  simp only at k6
  go_wp2
  go_loopw [3] (fun i wr => ∃ m : Nat, i = .int .i64 m ∧ PlCut pl l.length m ∧ KnIs wr B K ⟨id, home, first, last, st, .slice (some ⟨gg, 0, none⟩) l.length cc, l, .slice pa m pc, pl.take m⟩ ∧ FrKn W wr K (.slice (some ⟨gg, 0, none⟩) (l.length + 1) cc) (.slice pa pl.length pc)) (fun i _ => (intOf i).toNat)
  case atStart => exact ⟨pl.length, rfl, ⟨Nat.le_refl _, fun i h1 h2 => by omega⟩, by rw [List.take_length]; exact T2.out, F2.out⟩
  case round =>
    obtain ⟨m, rfl, hc, hT, hF⟩ := hrel
    have C0 := Lib.hid hc
    have T0 := Lib.hid hT
    have F0 := Lib.hid hF
    clear hc hT hF T2 F2 k6
    have k6 := T0.out.c6
    have kf := T0.out.fz
    simp only at k6
    match m with
    | 0 =>
      go_wp2
      exact bodyPost_end (v := .tuple #[]) (results_none rfl _ _ _) rfl ⟨rfl, ⟨0, _, _, C0.out, fun h => absurd h (Nat.lt_irrefl 0), T0.out, rfl, by cases pa <;> rfl, F0.out⟩⟩
    | m + 1 =>
      have hml := C0.out.le
      have htl : (pl.take (m + 1)).length = m + 1 := by rw [List.length_take]; omega
      obtain ⟨g6, hg6, hmc⟩ : ∃ g6, pa = some ⟨g6, 0, none⟩ ∧ m + 1 ≤ pc := by
        rcases T0.out.pr.form with ⟨e, e2⟩ | ⟨g, c, e, e2, _⟩
        · have := congrArg List.length e2
          rw [htl] at this
          simp at this
        · simp only at e e2
          injection e with e1 e3 e4
          rw [htl] at e2
          exact ⟨g, e1, by omega⟩
      subst hg6
      have hpr := T0.out.pr
      simp only at hpr
      have hz : wr.cell? ⟨g6, m * 2 + 1, none⟩ = some (.int .i64 (pl.getD m noPl).2) := by
        have := (PlcR.cell (cap := pc) (by rw [htl]; exact hpr) m (by omega)).2
        rw [this]
        rw [List.getD_eq_getElem?_getD, List.getD_eq_getElem?_getD, List.getElem?_take, if_pos (by omega)]
      have e1 : pl.take (m + 1) = pl.take m ++ [pl.getD m noPl] := by
        rw [List.take_add_one, List.getElem?_eq_getElem (by omega), List.getD_eq_getElem?_getD, List.getElem?_eq_getElem (by omega)]; rfl
      have e2 : (pl.take m).length = m := by rw [List.length_take]; omega
      have HP : Hid (PlcR wr B (.slice (some ⟨g6, 0, none⟩) m pc) (pl.take m)) := by
        have := plc_less (cap := pc) (l := pl.take m) (l2 := [pl.getD m noPl]) (by rw [← e1, htl]; exact hpr)
        rw [e2] at this
        exact this
      clear e1 e2
      have i1 : IntKind.i64.wrap (m : Int) = (m : Int) := by rw [IntKind.wrap_i64]; omega
      have i2 : IntKind.i64.wrap ((m : Int) + 1 - 1) = (m : Int) := by rw [IntKind.wrap_i64]; omega
      have i3 : m ≤ pc := by omega
      clear hpr hml hmc
      obtain ⟨z, hzz⟩ : ∃ z, z = (pl.getD m noPl).2 := ⟨_, rfl⟩
      rw [← hzz] at hz
      have HZ := Lib.hid hzz
      clear hzz
      by_cases hg : (l.length : Int) < z
      · go_wp2
        go_roundw
        case rel => exact ⟨m, rfl, ⟨by have := C0.out.le; omega, fun i h1 h2 => by
          by_cases e : i = m
          · rw [e, ← HZ.out]; exact hg
          · exact C0.out.gone i (by omega) h2⟩, T0.out.putP HP.out (own_refl _ _) (.inl rfl), F0.out.set⟩
        case measure => simp [intOf]
      · go_wp2
        exact bodyPost_end (v := .tuple #[]) (results_none rfl _ _ _) rfl ⟨rfl, ⟨m + 1, _, _, C0.out, fun _ => by rw [HZ.out] at hg; exact Int.not_lt.2 (by simpa using hg), T0.out, rfl, rfl, F0.out⟩⟩
end
end Go.Proofs.Ytophbefmlfieeaa
