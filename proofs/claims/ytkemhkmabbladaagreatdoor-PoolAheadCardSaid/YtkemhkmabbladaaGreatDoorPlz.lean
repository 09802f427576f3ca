/-
  THE CONTRACT OF pool's kept, of a page without cells.
  THE CONTRACTS OF pool's Change, of a page without cells: what its closure does to a frame.
  THE CONTRACTS OF pool's Dirty, dirtyNumbers.
  THE CONTRACTS OF pool's Flush: what its closure does to a frame (of a page without cells).
  THE CONTRACTS OF pool's Flush, of a pool that has one page, a dirty one without cells.
-/
import Derived.Test.YtkemhkmabbladaaGreatDoorPlx
import Derived.Deep.Cut
import Derived.Deep.CutRange
import Derived.Deep.DeepCutAuto
namespace Go.Proofs.YtkemhkmabbladaaGreatDoor
open Go.RowKit
set_option maxRecDepth 100000 in
set_option maxHeartbeats 2000000 in
theorem kept_none (no g : Int) (a : Option Addr) (c : Nat) (W : World) (hz : a = none ∨ ∃ b off, a = some ⟨b, off, none⟩) :
    Calls Tryz.prog 45 #[.agg #[.int .i64 no, .int .i64 g, .slice a 0 c]] W (OwnP W no g []) := by
  have hb1 := (Below.refl W.heap.size W).alloc (Nat.le_refl _) (.cells #[.int .i64 no, .int .i64 g, .slice a 0 c] 36)
  have hb2 := hb1.alloc hb1.size (.cells #[.int .i64 0, .int .i64 0, .slice none 0 0] 36)
  have hP := (Pg3.new W 36 no g (.slice a 0 c) []).below ((Below.refl _ _).alloc (Nat.le_refl _) (.cells #[.int .i64 0, .int .i64 0, .slice none 0 0] 36))
  have hR := Pg3.new (W.alloc (.cells #[.int .i64 no, .int .i64 g, .slice a 0 c] 36)) 36 0 0 (.slice none 0 0) []
  have hs1 : (W.alloc (.cells #[.int .i64 no, .int .i64 g, .slice a 0 c] 36)).heap.size = W.heap.size + 1 := by simp
  rw [hs1] at hR
  have KC := Lib.hid (fun (X : World) => own_any no g a [] c X (by simp) (.inl rfl) hz)
  clear hs1 hz
  go_enter Tryz.func45, Tryz.ntmps45
  go_upto_region 1 with fail
  generalize (W.alloc (.cells #[.int .i64 no, .int .i64 g, .slice a 0 c] 36)).alloc (.cells #[.int .i64 0, .int .i64 0, .slice none 0 0] 36) = X at *
  have KC1 : Hid (Calls Tryz.prog 40 #[.agg #[.int .i64 no, .int .i64 g, .slice a 0 c]] X (OwnP X no g [])) := KC.out X
  obtain ⟨p0, p1, p2, pf⟩ := hP
  have HX := Lib.hid (show W.heap.size + 1 < X.heap.size from hR.lt)
  have HR := Lib.hid hR
  have HB := Lib.hid hb2
  clear KC hR hb1 hb2
  go_wp2_with fail
  refine KC1.out.mono ?_
  rintro x w1 ⟨a', c', rfl, hrow, hbw⟩
  have hP1 : Pg3 w1 W.heap.size no g (.slice a 0 c) := (Pg3.mk p0 p1 p2 pf).below hbw
  have hR1 := HR.out.below hbw
  have HB1 := Lib.hid (HB.out.trans (hbw.mono HB.out.size))
  have hrow2 : RowC (((w1.setCell ⟨W.heap.size, 0, none⟩ (.int .i64 no)).setCell ⟨W.heap.size, 1, none⟩ (.int .i64 g)).setCell ⟨W.heap.size, 2, none⟩ (.slice a' 0 c')) X.heap.size (.slice a' 0 c') [] := by
    have hg := ((grown_cell w1 W.heap.size 0 (.int .i64 no)).trans (grown_cell _ W.heap.size 1 (.int .i64 g))).trans (grown_cell _ W.heap.size 2 (.slice a' 0 c'))
    exact World.ownsRow.kept hrow hg (by
      cases ho : (Value.slice a' 0 c').ownBlock with
      | none => exact .inl rfl
      | some k => exact .inr (fun e => by
          injection e with e
          have h1 := (World.ownsRow.lt hrow k ho).1
          have h2 := HX.out
          omega))
  have HP2 := Lib.hid (hP1.put no g (.slice a' 0 c'))
  have HR2 := Lib.hid (hR1.put3_other W.heap.size (.int .i64 no) (.int .i64 g) (.slice a' 0 c') (by omega))
  have HB3 := Lib.hid (((HB1.out.setCell (p := ⟨W.heap.size, 0, none⟩) (Nat.le_refl _) (.int .i64 no)).setCell (p := ⟨W.heap.size, 1, none⟩) (Nat.le_refl _) (.int .i64 g)).setCell (p := ⟨W.heap.size, 2, none⟩) (Nat.le_refl _) (.slice a' 0 c'))
  have HRW := Lib.hid hrow2
  obtain ⟨q0, q1, q2, qf⟩ := hP1
  clear hrow hbw HR HB KC1 HB1 hrow2 hR1 p0 p1 p2 pf
  go_upto_region 2 with fail
  generalize ((w1.setCell ⟨W.heap.size, 0, none⟩ (.int .i64 no)).setCell ⟨W.heap.size, 1, none⟩ (.int .i64 g)).setCell ⟨W.heap.size, 2, none⟩ (.slice a' 0 c') = Y at *
  obtain ⟨p0, p1, p2, pf⟩ := HP2.out
  obtain ⟨r0, r1, r2, rf⟩ := HR2.out
  clear q0 q1 q2 qf
  go_wp2
  go_loopw [10] (fun i wr => i = .int .i64 0 ∧ wr = Y) (fun _ _ => 0)
  case atStart => exact ⟨rfl, rfl⟩
  case round =>
    obtain ⟨rfl, rfl⟩ := hrel
    go_wp2
    obtain ⟨Z, hZ, x0, x1, x2, hbZ, hgZ⟩ := set3 (B := W.heap.size) (v0 := .int .i64 no) (v1 := .int .i64 g) (v2 := .slice a' 0 c') HB3.out (by omega) r0 r1 r2
    rw [← hZ]
    have hrz : RowC Z X.heap.size (.slice a' 0 c') [] := World.ownsRow.kept HRW.out hgZ (by
      cases ho : (Value.slice a' 0 c').ownBlock with
      | none => exact .inl rfl
      | some k => exact .inr (fun e => by
          injection e with e
          have h1 := (World.ownsRow.lt HRW.out k ho).1
          have h2 := HX.out
          omega))
    refine bodyPost_ret (v := .agg #[.int .i64 no, .int .i64 g, .slice a' 0 c']) ?_ rfl ⟨a', c', rfl, hrz.base (by have := HX.out; omega), hbZ⟩
    simp [results, Tryz.results45, go_sem, x0, x1, x2]
end Go.Proofs.YtkemhkmabbladaaGreatDoor

namespace Go.Proofs.YtkemhkmabbladaaGreatDoor
open Go.RowKit
section
variable {w W X : World} {D P L M n B T np Q room MF k : Nat} {now : Nat → Pg} {o : Int → Option Nat} {fv : Int → FrD}
/-- What becomes of a frame that is changed. -/
def chFr (x : FrD) (g : Int) (v : Value) : FrD := ⟨g, v, [], if 0 < x.first then x.first else g, x.pins⟩
set_option maxRecDepth 100000 in
set_option maxHeartbeats 4000000 in
theorem chg_none (h : PlS w W D P L M n B T np now Q room MF k o fv) (no : Int) {F : Nat} (e : o no = some F) (XB GB : Nat) (no2 g2 : Int) (a2 : Option Addr) (c2 : Nat) (hx : Pg3 W XB no2 g2 (.slice a2 0 c2)) (hz : a2 = none ∨ ∃ b off, a2 = some ⟨b, off, none⟩) (gb : W.cell? ⟨GB, 0, none⟩ = some (.int .i64 g2)) (hGF : GB ≠ F) (hok : pgOk no2 g2 [] = true) (hno : no2 = no) (hlt : (fv no).g < g2) :
    Calls Tryz.prog 43 #[.pointer (some ⟨F, 0, none⟩), .pointer (some ⟨XB, 0, none⟩), .pointer (some ⟨GB, 0, none⟩)] W fun x w' => x = .returned (.int .i64 0) ∧ (∃ v, PlS w w' D P L M n B T np now Q room MF k o (updV fv no (chFr (fv no) g2 v))) ∧ (∀ b, b < W.heap.size → b ≠ F → w'.heap[b]? = W.heap[b]?) := by
  have hf := h.fr no F e
  obtain ⟨x0, x1, x2, xf⟩ := hx
  have f1 := hf.p.p1
  have KR : Hid (∀ X : World, Calls Tryz.prog 44 #[.agg #[.int .i64 no2, .int .i64 g2, .slice a2 0 c2]] X fun e w' => e = .returned (.bool true) ∧ Below X.heap.size X w') := fun X => by
    have := right_any no2 g2 a2 [] c2 X (by simp) (.inl rfl)
    rw [hok] at this; exact this
  have KK := Lib.hid (fun X => kept_none no2 g2 a2 c2 X hz)
  obtain ⟨g, hg⟩ : ∃ g, g = (fv no).g := ⟨_, rfl⟩
  have HG := Lib.hid hg
  rw [← hg] at f1 hlt
  have HH := Lib.hid h
  have HE := Lib.hid e
  subst hno
  clear h e hf hg hok hz xf
  have hng : decide (g2 ≤ g) = false := by simp; omega
  have hnn : (g2 != g2) = false := by simp
  go_enter Tryz.func43, Tryz.ntmps43
  go_upto_region 1 with fail
  go_cut [23] (fun s wx => s = .bool false ∧ Below W.heap.size W wx)
  case first =>
    go_region_held3 (fun w' => w'.cell? ⟨XB, 0, none⟩ = some (.int .i64 no2) ∧ w'.cell? ⟨XB, 1, none⟩ = some (.int .i64 g2) ∧ w'.cell? ⟨XB, 2, none⟩ = some (.slice a2 0 c2) ∧ w'.cell? ⟨F, 1, none⟩ = some (.int .i64 g) ∧ w'.cell? ⟨GB, 0, none⟩ = some (.int .i64 g2))
      ((refine ⟨?_, ?_, ?_, ?_, ?_⟩ <;> (repeat (first | with_reducible assumption | with_reducible refine keep_alloc ?_ | with_reducible refine keep_drew ?_ | with_reducible refine keep_cell (by assumption) ?_))))
      (first
        | (go_at_call 44; refine (KR.out _).mono ?_; rintro x w98 ⟨rfl, hb98⟩))
    all_goals go_wp2_with fail
    all_goals go_meet
    all_goals exact ⟨rfl, ((Below.refl W.heap.size W).drew).trans (hb98.mono (Nat.le_refl _))⟩
  case rest =>
  obtain ⟨rfl, hbx⟩ := hcut
  rename World => wc
  have H1 := Lib.hid (HH.out.below hbx)
  have y0 := Dv.keep_cell hbx x0
  have y1 := Dv.keep_cell hbx x1
  have y2 := Dv.keep_cell hbx x2
  have gb1 := Dv.keep_cell hbx gb
  have HBX := Lib.hid hbx
  clear x0 x1 x2 f1 gb KR hbx hng hnn
  go_wp2_with fail
  refine (KK.out _).mono ?_
  rintro x w2 ⟨a', c', rfl, hrow, hb2⟩
  have h2 := H1.out.below hb2
  have hf2 := h2.fr no2 F HE.out
  have gb2 := Dv.keep_cell hb2 gb1
  obtain ⟨q0, q1, q2, qf⟩ := hf2.p
  have hgY := ((grown_cell w2 F 0 (.int .i64 no2)).trans (grown_cell _ F 1 (.int .i64 g2))).trans (grown_cell _ F 2 (.slice a' 0 c'))
  have hFlt : F < wc.heap.size := (H1.out.fr no2 F HE.out).p.lt
  have hro : ∀ r, (Value.slice a' 0 c').ownBlock = some r → wc.heap.size ≤ r ∧ r < w2.heap.size := fun r hr => World.ownsRow.lt hrow r hr
  have hrowY : RowC (((w2.setCell ⟨F, 0, none⟩ (.int .i64 no2)).setCell ⟨F, 1, none⟩ (.int .i64 g2)).setCell ⟨F, 2, none⟩ (.slice a' 0 c')) 0 (.slice a' 0 c') [] := RowC.base (World.ownsRow.kept hrow hgY (by
      cases ho : (Value.slice a' 0 c').ownBlock with
      | none => exact .inl rfl
      | some k => exact .inr (fun e => by
          injection e with e
          have := (hro k ho).1
          omega))) (Nat.zero_le _)
  have oth : ∀ {U : World} {v : Value} (i j : Nat) (u : Value), i ≠ j → U.cell? ⟨F, j, none⟩ = some v → (U.setCell ⟨F, i, none⟩ u).cell? ⟨F, j, none⟩ = some v := fun i j u hne hc => by
    rw [World.cell?_setCell_other _ _ _ _ (fun e => by injection e with _ e; exact hne e)]; exact hc
  have hFrY : FrIs (((w2.setCell ⟨F, 0, none⟩ (.int .i64 no2)).setCell ⟨F, 1, none⟩ (.int .i64 g2)).setCell ⟨F, 2, none⟩ (.slice a' 0 c')) F no2 ⟨g2, .slice a' 0 c', [], (fv no2).first, (fv no2).pins⟩ :=
    ⟨hf2.p.put no2 g2 (.slice a' 0 c'), oth 2 3 _ (by decide) (oth 1 3 _ (by decide) (oth 0 3 _ (by decide) hf2.f0)), oth 2 4 _ (by decide) (oth 1 4 _ (by decide) (oth 0 4 _ (by decide) hf2.f1)), hrowY, by simp⟩
  have hlts := H1.out.lts
  have hrr : ∀ r, (Value.slice a' 0 c').ownBlock = some r → (r ≠ P ∧ r ≠ L ∧ r ≠ M ∧ r ≠ Q ∧ r ≠ MF) ∧ ∀ j F', o j = some F' → r ≠ F' := fun r hr => by
    have h1 := (hro r hr).1
    have h3 := H1.out.tk.lts
    exact ⟨⟨by omega, by omega, by omega, by omega, by omega⟩, fun j F' ej => by have := hlts.2.2 j F' ej; omega⟩
  have hY := h2.put HE.out hgY hFrY (.inr hrr)
  have gbY : (((w2.setCell ⟨F, 0, none⟩ (.int .i64 no2)).setCell ⟨F, 1, none⟩ (.int .i64 g2)).setCell ⟨F, 2, none⟩ (.slice a' 0 c')).cell? ⟨GB, 0, none⟩ = some (.int .i64 g2) :=
    (World.cell?_of_block (a := ⟨GB, 0, none⟩) (hgY.block GB (Dv.block_lt gb2) (fun e => by injection e with e; exact hGF e))).trans gb2
  have hkeep : ∀ b, b < W.heap.size → b ≠ F → (((w2.setCell ⟨F, 0, none⟩ (.int .i64 no2)).setCell ⟨F, 1, none⟩ (.int .i64 g2)).setCell ⟨F, 2, none⟩ (.slice a' 0 c')).heap[b]? = W.heap[b]? := fun b hb hne => by
    have l1 := HBX.out.size
    have l2 := hb2.size
    exact ((hgY.block b (by omega) (fun e => by injection e with e; exact hne e)).trans (hb2.block b (by omega))).trans (HBX.out.block b hb)
  have HKP := Lib.hid hkeep
  have HY := Lib.hid hY
  have HFY := Lib.hid hFrY
  have HRR := Lib.hid hrr
  clear hkeep hY hFrY hrr hrow hb2 h2 hf2 hgY hro hrowY oth hlts gb1 gb2 y0 y1 y2
  go_upto_region 4 with fail
  generalize ((w2.setCell ⟨F, 0, none⟩ (.int .i64 no2)).setCell ⟨F, 1, none⟩ (.int .i64 g2)).setCell ⟨F, 2, none⟩ (.slice a' 0 c') = Y at *
  have KD := Lib.hid (dirty_any HY.out HE.out)
  have hv : updV fv no2 ⟨g2, .slice a' 0 c', [], (fv no2).first, (fv no2).pins⟩ no2 = ⟨g2, .slice a' 0 c', [], (fv no2).first, (fv no2).pins⟩ := by unfold updV; rw [if_pos rfl]
  rw [hv] at KD
  clear q0 q1 q2 qf hv KK
  by_cases hfi : 0 < (fv no2).first
  · rw [show decide (0 < (fv no2).first) = true by simpa using hfi] at KD
    have R : Hid (∃ v, PlS w Y D P L M n B T np now Q room MF k o (updV fv no2 (chFr (fv no2) g2 v))) := ⟨.slice a' 0 c', by unfold chFr; rw [if_pos hfi]; exact HY.out⟩
    clear hfi
    go_wp2_with fail
    refine KD.out.mono ?_
    rintro x w5 ⟨rfl, rfl⟩
    go_wp2
    go_ret
    exact ⟨rfl, R.out, HKP.out⟩
  · rw [show decide (0 < (fv no2).first) = false by simpa using hfi] at KD
    have f3 := HFY.out.f0
    have ff : Y.frozen? ⟨F, 3, none⟩ = false := HFY.out.p.pf 3
    have hgZ := grown_cell Y F 3 (.int .i64 g2)
    have oth : ∀ {v : Value} (j : Nat), 3 ≠ j → Y.cell? ⟨F, j, none⟩ = some v → (Y.setCell ⟨F, 3, none⟩ (.int .i64 g2)).cell? ⟨F, j, none⟩ = some v := fun j hne hc => by
      rw [World.cell?_setCell_other _ _ _ _ (fun e => by injection e with _ e; exact hne e)]; exact hc
    have hFrZ : FrIs (Y.setCell ⟨F, 3, none⟩ (.int .i64 g2)) F no2 ⟨g2, .slice a' 0 c', [], g2, (fv no2).pins⟩ :=
      ⟨⟨oth 0 (by decide) HFY.out.p.p0, oth 1 (by decide) HFY.out.p.p1, oth 2 (by decide) HFY.out.p.p2, fun i => by rw [World.frozen?_setCell]; exact HFY.out.p.pf i⟩, World.cell?_setCell_same _ _ _ f3, oth 4 (by decide) HFY.out.f1,
        row_block HFY.out.row (fun r hr => hgZ.block r (row_lt HFY.out.row hr) (fun e => by injection e with e; exact (HRR.out r hr).2 no2 F HE.out e)), by simp⟩
    have hZ := HY.out.put HE.out hgZ hFrZ (.inr HRR.out)
    have huu : updV (updV fv no2 ⟨g2, .slice a' 0 c', [], (fv no2).first, (fv no2).pins⟩) no2 ⟨g2, .slice a' 0 c', [], g2, (fv no2).pins⟩ = updV fv no2 ⟨g2, .slice a' 0 c', [], g2, (fv no2).pins⟩ := by
      funext j; unfold updV; split <;> rfl
    rw [huu] at hZ
    have R : Hid (∃ v, PlS w (Y.setCell ⟨F, 3, none⟩ (.int .i64 g2)) D P L M n B T np now Q room MF k o (updV fv no2 (chFr (fv no2) g2 v))) := ⟨.slice a' 0 c', by unfold chFr; rw [if_neg hfi]; exact hZ⟩
    have K2 : Hid (∀ b, b < W.heap.size → b ≠ F → (Y.setCell ⟨F, 3, none⟩ (.int .i64 g2)).heap[b]? = W.heap[b]?) := fun b hb hne => (Below.heap_setCell Y ⟨F, 3, none⟩ _ b hne).trans (HKP.out b hb hne)
    clear hgZ oth hFrZ hZ huu hfi
    go_wp2_with fail
    refine KD.out.mono ?_
    rintro x w5 ⟨rfl, rfl⟩
    go_wp2
    go_ret
    exact ⟨rfl, R.out, K2.out⟩
set_option maxRecDepth 100000 in
set_option maxHeartbeats 2000000 in
/-- each, of one number that is there. -/
theorem each_one (Q MF kk : Nat) (o : Int → Option Nat) (cf : FuncId) (caps : Array Value) (a : Option Addr) (c : Nat) (no : Int) (F : Nat) (W : World) (hno : (Lit.int .i64 no).wf = true) (eg : ∀ args w, (callFunc cf args).run Tryz.prog w = .ok (.enter cf args) w)
    (q2 : W.cell? ⟨Q, 2, none⟩ = some (.map (some MF))) (hm : FrAt W MF kk o) (hrow : IRow W a [no]) (e : o no = some F) (r : Int) (Z : World → Prop)
    (hcall : Calls Tryz.prog cf (#[.pointer (some ⟨F, 0, none⟩)] ++ caps) W fun e w' => e = .returned (.int .i64 r) ∧ Z w') :
    Calls Tryz.prog 42 #[.pointer (some ⟨Q, 0, none⟩), .slice a 1 c, .func (.func cf) #[] caps] W fun e w' => e = .returned (.int .i64 r) ∧ Z w' := by
  rcases hrow with hnil | ⟨b, off, rfl, hcs⟩
  · cases hnil
  have hc := hcs 0 (by simp)
  rw [Nat.add_zero, show ([no].getD 0 0) = no from rfl] at hc
  have lk := hm.lookOk no hno
  rw [e] at lk
  rw [show frV (some F) = Value.pointer (some ⟨F, 0, none⟩) from rfl, show (some F).isSome = true from rfl] at lk
  have KC := Lib.hid hcall
  clear hcs hm e hcall
  go_enter Tryz.func42, Tryz.ntmps42
  go_wp2
  go_loopw [16] (fun i wr => (i = .int .i64 0 ∧ wr = W) ∨ (i = .int .i64 1 ∧ r = 0 ∧ Hid (Z wr))) (fun i _ => 1 - (intOf i).toNat)
  case atStart => exact .inl ⟨rfl, rfl⟩
  case round =>
    rcases hrel with ⟨rfl, rfl⟩ | ⟨rfl, hr, hz⟩
    · by_cases he : r = 0
      · subst he
        go_wp2_with (go_at_fn cf; refine KC.out.mono ?_; rintro e w2 ⟨rfl, hi⟩)
        have HI := Lib.hid hi
        clear hi KC
        go_wp2
        go_roundw
        case rel => exact .inr ⟨by go_num, by first | trivial | rfl, HI⟩
        case measure => simp [intOf]
      · go_wp2_with (go_at_fn cf; refine KC.out.mono ?_; rintro e w2 ⟨rfl, hi⟩)
        have HI := Lib.hid hi
        clear hi KC
        go_wp2
        go_ret
        exact ⟨rfl, HI.out⟩
    · subst hr
      go_wp2
      go_ret
      exact ⟨rfl, hz.out⟩
set_option maxRecDepth 100000 in
set_option maxHeartbeats 2000000 in
/-- Change of a page without cells that is at hand. -/
theorem change_none (h : PlS w W D P L M n B T np now Q room MF k o fv) (no : Int) (hwf : (Lit.int .i64 no).wf = true) {F : Nat} (e : o no = some F) (g2 : Int) (a2 : Option Addr) (c2 : Nat) (hz : a2 = none ∨ ∃ b off, a2 = some ⟨b, off, none⟩) (hok : pgOk no g2 [] = true) (hlt : (fv no).g < g2) :
    Calls Tryz.prog 14 #[.pointer (some ⟨Q, 0, none⟩), .agg #[.int .i64 no, .int .i64 g2, .slice a2 0 c2], .int .i64 g2] W fun x w' => x = .returned (.int .i64 0) ∧ (∃ v, PlS w w' D P L M n B T np now Q room MF k o (updV fv no (chFr (fv no) g2 v))) ∧ (∀ b, b < W.heap.size → b ≠ F → w'.heap[b]? = W.heap[b]?) := by
  have hb1 := (Below.refl W.heap.size W).alloc (Nat.le_refl _) (.cells #[.int .i64 no, .int .i64 g2, .slice a2 0 c2] 36)
  have hs1 : (W.alloc (.cells #[.int .i64 no, .int .i64 g2, .slice a2 0 c2] 36)).heap.size = W.heap.size + 1 := by simp
  have hb2 := hb1.alloc hb1.size (.cells #[.int .i64 g2] 3)
  have hx1 := (Pg3.new W 36 no g2 (.slice a2 0 c2) []).below ((Below.refl _ _).alloc (Nat.le_refl _) (.cells #[.int .i64 g2] 3))
  have gb1 : ((W.alloc (.cells #[.int .i64 no, .int .i64 g2, .slice a2 0 c2] 36)).alloc (.cells #[.int .i64 g2] 3)).cell? ⟨W.heap.size + 1, 0, none⟩ = some (.int .i64 g2) := Dv.new_cell hs1.symm rfl
  have hFlt := (h.fr no F e).p.lt
  have h1 := h.below hb2
  have p0 := hx1.p0
  clear hs1
  go_enter Tryz.func14, Tryz.ntmps14
  go_upto_region 1 with fail
  generalize (W.alloc (.cells #[.int .i64 no, .int .i64 g2, .slice a2 0 c2] 36)).alloc (.cells #[.int .i64 g2] 3) = X at *
  have hb3 := (Below.refl X.heap.size X).alloc (Nat.le_refl _) (.cells #[.int .i64 no] 3)
  have h2 := h1.below hb3
  have KC := chg_none h2 no e W.heap.size (W.heap.size + 1) no g2 a2 c2 (hx1.below hb3) hz (Dv.keep_cell hb3 gb1) (by omega) hok rfl hlt
  have hir : IRow (X.alloc (.cells #[.int .i64 no] 3)) (some ⟨X.heap.size, 0, none⟩) [no] := .inr ⟨X.heap.size, 0, rfl, fun i hi => by
    match i, hi with
    | 0, _ => exact Dv.new_cell rfl rfl⟩
  have KE := Lib.hid (each_one Q MF k o 43 #[.pointer (some ⟨W.heap.size, 0, none⟩), .pointer (some ⟨W.heap.size + 1, 0, none⟩)] (some ⟨X.heap.size, 0, none⟩) 1 no F _ hwf (enters_of Tryz.func43 (by kernel_rfl) rfl) h2.q2 h2.mp hir e 0 _ KC)
  have HKP : Hid (∀ b, b < W.heap.size → (X.alloc (.cells #[.int .i64 no] 3)).heap[b]? = W.heap[b]?) := fun b hb => by
    have := hb2.size
    exact (hb3.block b (by omega)).trans (hb2.block b hb)
  have HLE : Hid (W.heap.size ≤ (X.alloc (.cells #[.int .i64 no] 3)).heap.size) := Nat.le_trans hb2.size hb3.size
  clear h h1 h2 hx1 gb1 hir KC hb1 hb2 hb3 hFlt e hz hok hlt hwf
  go_wp2_with fail
  refine KE.out.mono ?_
  rintro x w5 ⟨rfl, hv, hk⟩
  have HV := Lib.hid hv
  have HK := Lib.hid hk
  clear hv hk KE
  go_wp2
  go_ret
  exact ⟨rfl, HV.out, fun b hb hne => (HK.out b (Nat.lt_of_lt_of_le hb HLE.out) hne).trans (HKP.out b hb)⟩
end
end Go.Proofs.YtkemhkmabbladaaGreatDoor

namespace Go.Proofs.YtkemhkmabbladaaGreatDoor
open Go.RowKit
def dC (q : Int × Int) : List Value := [.int .i64 q.1, .int .i64 q.2]
def dsC (l : List (Int × Int)) : List Value := l.flatMap dC
theorem dsC_len : ∀ l : List (Int × Int), (dsC l).length = l.length * 2
  | [] => rfl
  | c :: l => by
    have := dsC_len l
    unfold dsC at this ⊢
    rw [List.flatMap_cons, List.length_append, this]
    show 2 + l.length * 2 = (l.length + 1) * 2
    omega
theorem dsC_append (a b : List (Int × Int)) : dsC (a ++ b) = dsC a ++ dsC b := by unfold dsC; rw [List.flatMap_append]
def noD : Int × Int := (0, 0)
theorem dsC_get : ∀ (l : List (Int × Int)) (i : Nat), i < l.length → (dsC l)[i * 2]? = some (.int .i64 (l.getD i noD).1) ∧ (dsC l)[i * 2 + 1]? = some (.int .i64 (l.getD i noD).2)
  | c :: l, 0, _ => ⟨rfl, rfl⟩
  | c :: l, i + 1, h => by
    have ih := dsC_get l i (by simpa using h)
    have e : dsC (c :: l) = .int .i64 c.1 :: .int .i64 c.2 :: dsC l := rfl
    have e2 : (i + 1) * 2 = i * 2 + 1 + 1 := by omega
    rw [e, e2, List.getElem?_cons_succ, List.getElem?_cons_succ, List.getElem?_cons_succ, List.getElem?_cons_succ]
    exact ih
/-- A row of dirty pages. -/
def RowD (W : World) (B : Nat) (v : Value) (l : List (Int × Int)) : Prop := W.ownsRow B 73 2 v l.length (dsC l)
/-- Dirty pages at a slice. -/
def DAt (W : World) (a : Option Addr) (l : List (Int × Int)) : Prop := l = [] ∨ ∃ b off, a = some ⟨b, off, none⟩ ∧ ∀ i, i < l.length → W.cell? ⟨b, off + i * 2, none⟩ = some (.int .i64 (l.getD i noD).1) ∧ W.cell? ⟨b, off + i * 2 + 1, none⟩ = some (.int .i64 (l.getD i noD).2)
theorem DAt.below {W X : World} {a : Option Addr} {l : List (Int × Int)} (h : DAt W a l) (hb : Below W.heap.size W X) : DAt X a l := by
  rcases h with h | ⟨b, off, e, h⟩
  · exact .inl h
  · exact .inr ⟨b, off, e, fun i hi => ⟨Dv.keep_cell hb (h i hi).1, Dv.keep_cell hb (h i hi).2⟩⟩
theorem RowD.at {W : World} {B : Nat} {v : Value} {l : List (Int × Int)} (h : RowD W B v l) : ∃ a c, v = .slice a l.length c ∧ DAt W a l := by
  rcases h.2 with ⟨hv, h0⟩ | ⟨g, c, cur, hv, _⟩
  · exact ⟨none, 0, by rw [hv, h0], .inl (List.length_eq_zero_iff.1 h0)⟩
  · subst hv
    refine ⟨_, c, rfl, .inr ⟨g, 0, rfl, fun i hi => ?_⟩⟩
    obtain ⟨h1, h2⟩ := dsC_get l i hi
    rw [Nat.zero_add, World.ownsRow.cellAt h (i * 2) (by omega), World.ownsRow.cellAt h (i * 2 + 1) (by omega)]
    exact ⟨h1, h2⟩
theorem RowD.base {W : World} {B C : Nat} {v : Value} {l : List (Int × Int)} (h : RowD W B v l) (hC : C ≤ B) : RowD W C v l := by
  obtain ⟨h1, h2⟩ := h
  refine ⟨h1, ?_⟩
  rcases h2 with h2 | ⟨g, cap, cur, hv, hg, r⟩
  · exact .inl h2
  · exact .inr ⟨g, cap, cur, hv, Nat.le_trans hC hg, r⟩
theorem infoD : (Tryz.prog.info? 73).map (fun i => (i.zero, i.size, i.bytes)) = some (some (.agg #[.int .i64 0, .int .i64 0]), 2, 16) := by kernel_rfl
theorem dC_one : ∀ q : Int × Int, ∀ u ∈ dC q, u.oneCell' = true := by
  intro q u hu
  unfold dC at hu
  simp at hu
  rcases hu with rfl | rfl <;> rfl
/-- append of one that was made for it. -/
theorem append_d {W : World} {ops : Array Oper} {rest : List Oper} {o : Oper} {a : Act} {Q : Exit → Act → World → Prop} (hgd : o.guard = none) (s x : Operand)
    (ho : o.op = .call { callee := .builtin .append, args := #[s, x], argTypes := #[70, 70] })
    (w : World) (v : Value) (l : List (Int × Int)) (q : Int × Int) (hs : a.eval s = v) (hown : RowD W w.heap.size v l) (hbr : Below w.heap.size w W) (hx : a.eval x = .slice (some ⟨W.heap.size, 0, none⟩) 1 1) (h10 : l.length ≤ 1000)
    (h : ∀ v' w2, RowD w2 w.heap.size v' (l ++ [q]) → Below w.heap.size w w2 → wpList Tryz.prog ops Q rest (a.put o.dst v') w2) :
    wpList Tryz.prog ops Q (o :: rest) a (W.alloc (.cells #[.int .i64 q.1, .int .i64 q.2] 73)) := by
  obtain ⟨i0, hi, hzz⟩ := Option.map_eq_some_iff.1 infoD
  simp only [Prod.mk.injEq] at hzz
  obtain ⟨hz0, hz1, hz2⟩ := hzz
  have hba : Below W.heap.size W (W.alloc (.cells #[.int .i64 q.1, .int .i64 q.2] 73)) := (Below.refl _ _).alloc (Nat.le_refl _) _
  have hsz : w.heap.size ≤ (W.alloc (.cells #[.int .i64 q.1, .int .i64 q.2] 73)).heap.size := Nat.le_trans hbr.size hba.size
  have hown2 : RowD (W.alloc (.cells #[.int .i64 q.1, .int .i64 q.2] 73)) w.heap.size v l := World.ownsRow.kept hown (row := none) ⟨hba.os, hba.tape, hba.output, hba.size, fun k hk _ => hba.block k hk⟩ (by cases v.ownBlock with
    | none => exact .inl rfl
    | some k => exact .inr (fun e => by cases e))
  refine wpList_append_own_at _ hgd s x 70 ho w.heap.size 73 i0 _ 2 16 Tryz.underlying70 hi hz0 hz1 hz2 rfl (by decide) v l.length (dsC l) hs hown2 ⟨W.heap.size, 0, none⟩ 1 1 (dC q) hx rfl (fun j u hj => ?_) (dC_one q) (by unfold maxLen; omega) (by omega) hsz (fun v' w' h1 h2 _ _ => h v' w' ?_ ?_)
  · have ea : (⟨W.heap.size, 0, none⟩ : Addr).add j = ⟨W.heap.size, 0 + j, none⟩ := by unfold Addr.add; split <;> simp_all
    rw [ea, Nat.zero_add]
    match j, hj with
    | 0, hj => rw [← hj]; exact Dv.new_cell rfl rfl
    | 1, hj => rw [← hj]; exact Dv.new_cell rfl rfl
  · unfold RowD
    rw [List.length_append, dsC_append]
    have : dsC [q] = dC q := by unfold dsC; simp
    rw [this]; exact h1
  · exact (hbr.alloc hbr.size _).grown h2 hsz (fun k hk => (World.ownsRow.lt hown2 k hk).1)
theorem infoZ : (Tryz.prog.info? 3).map (fun i => (i.zero, i.size, i.bytes)) = some (some (.int .i64 0), 1, 8) := by kernel_rfl
/-- append of one number. -/
theorem append_i {W : World} {ops : Array Oper} {rest : List Oper} {o : Oper} {a : Act} {Q : Exit → Act → World → Prop} (hgd : o.guard = none) (s x : Operand)
    (ho : o.op = .call { callee := .builtin .append, args := #[s, x], argTypes := #[38, 38] })
    (w : World) (v : Value) (l : List Int) (q : Int) (hs : a.eval s = v) (hown : W.ownsRow w.heap.size 3 1 v l.length (l.map encZ)) (hbr : Below w.heap.size w W) (hx : a.eval x = .slice (some ⟨W.heap.size, 0, none⟩) 1 1) (h10 : l.length ≤ 1000)
    (h : ∀ v' w2, w2.ownsRow w.heap.size 3 1 v' (l ++ [q]).length ((l ++ [q]).map encZ) → Below w.heap.size w w2 → wpList Tryz.prog ops Q rest (a.put o.dst v') w2) :
    wpList Tryz.prog ops Q (o :: rest) a (W.alloc (.cells #[.int .i64 q] 3)) := by
  obtain ⟨i0, hi, hzz⟩ := Option.map_eq_some_iff.1 infoZ
  simp only [Prod.mk.injEq] at hzz
  obtain ⟨hz0, hz1, hz2⟩ := hzz
  have hba : Below W.heap.size W (W.alloc (.cells #[.int .i64 q] 3)) := (Below.refl _ _).alloc (Nat.le_refl _) _
  have hsz : w.heap.size ≤ (W.alloc (.cells #[.int .i64 q] 3)).heap.size := Nat.le_trans hbr.size hba.size
  have hown2 : (W.alloc (.cells #[.int .i64 q] 3)).ownsRow w.heap.size 3 1 v l.length (l.map encZ) := World.ownsRow.kept hown (row := none) ⟨hba.os, hba.tape, hba.output, hba.size, fun k hk _ => hba.block k hk⟩ (by cases v.ownBlock with
    | none => exact .inl rfl
    | some k => exact .inr (fun e => by cases e))
  refine wpList_append_own_at _ hgd s x 38 ho w.heap.size 3 i0 _ 1 8 Tryz.underlying38 hi hz0 hz1 hz2 rfl (by decide) v l.length (l.map encZ) hs hown2 ⟨W.heap.size, 0, none⟩ 1 1 [.int .i64 q] hx rfl (fun j u hj => ?_) (fun u hu => by simp at hu; subst hu; rfl) (by unfold maxLen; omega) (by omega) hsz (fun v' w' h1 h2 _ _ => h v' w' ?_ ?_)
  · have ea : (⟨W.heap.size, 0, none⟩ : Addr).add j = ⟨W.heap.size, 0 + j, none⟩ := by unfold Addr.add; split <;> simp_all
    rw [ea, Nat.zero_add]
    match j, hj with
    | 0, hj => rw [← hj]; exact Dv.new_cell rfl rfl
  · rw [List.length_append, List.map_append]; exact h1
  · exact (hbr.alloc hbr.size _).grown h2 hsz (fun k hk => (World.ownsRow.lt hown2 k hk).1)
section
variable {w W X : World} {D P L M n B T np Q room MF k : Nat} {now : Nat → Pg} {o : Int → Option Nat} {fv : Int → FrD}
/-- The dirty pages of a list. -/
def dirtyOf (fv : Int → FrD) (ks : List Int) : List (Int × Int) := (ks.filter fun i => decide (0 < (fv i).first)).map fun i => (i, (fv i).first)
theorem dirtyOf_take (fv : Int → FrD) (ks : List Int) (j : Nat) (hj : j < ks.length) : dirtyOf fv (ks.take (j + 1)) = dirtyOf fv (ks.take j) ++ (if 0 < (fv (ks.getD j 0)).first then [(ks.getD j 0, (fv (ks.getD j 0)).first)] else []) := by
  have : ks.take (j + 1) = ks.take j ++ [ks.getD j 0] := by rw [List.take_succ_eq_append_getElem hj]; simp [List.getD_eq_getElem?_getD, hj]
  rw [this]
  unfold dirtyOf
  rw [List.filter_append, List.map_append]
  congr 1
  by_cases h : 0 < (fv (ks.getD j 0)).first
  · rw [if_pos h, List.filter_cons_of_pos (by simpa using h)]; rfl
  · rw [if_neg h, List.filter_cons_of_neg (by simpa using h)]; rfl
theorem dirtyOf_len (fv : Int → FrD) (ks : List Int) : (dirtyOf fv ks).length ≤ ks.length := by unfold dirtyOf; rw [List.length_map]; exact List.length_filter_le _ _
set_option maxRecDepth 100000 in
set_option maxHeartbeats 2000000 in
theorem dirtyL_any (h : PlS w W D P L M n B T np now Q room MF k o fv) {ks : List Int} (hk : KeysOf o ks) (hwf : ∀ i ∈ ks, (Lit.int .i64 i).wf = true) :
    Calls Tryz.prog 29 #[.pointer (some ⟨Q, 0, none⟩)] W fun x w' => ∃ v, x = .returned v ∧ RowD w' W.heap.size v (dirtyOf fv ks) ∧ Below W.heap.size W w' := by
  have KH := Lib.hid (held_any h hk)
  have few := hk.few
  have HK := Lib.hid hk
  have HH := Lib.hid h
  have HWF := Lib.hid hwf
  clear h hk hwf
  go_enter Tryz.func29, Tryz.ntmps29
  go_wp2_with fail
  refine KH.out.mono ?_
  rintro x w1 ⟨a, c, rfl, hrow, _, hb1⟩
  have HR := Lib.hid hrow
  have HB1 := Lib.hid hb1
  clear hrow KH
  go_wp2
  go_loopw [3, 10] (fun v i wr => ∃ j : Nat, j ≤ ks.length ∧ i = .int .i64 j ∧ RowD wr w1.heap.size v (dirtyOf fv (ks.take j)) ∧ Below w1.heap.size w1 wr) (fun _ i _ => ks.length - (intOf i).toNat)
  case atStart => exact ⟨0, Nat.zero_le _, rfl, World.ownsRow_nil _ _ _ _, Below.refl _ _⟩
  case round =>
    obtain ⟨j, hj, rfl, hown, hb1r⟩ := hrel
    rename World => wr
    have hbr := HB1.out.trans (hb1r.mono HB1.out.size)
    by_cases hlt : j < ks.length
    · rcases HR.out.below hb1r with hnil | ⟨b, off, rfl, hcs⟩
      · rw [hnil] at hlt; exact absurd hlt (Nat.not_lt_zero _)
      have hc := hcs j hlt
      have hT := dirtyOf_take fv ks j hlt
      have hol := dirtyOf_len fv (ks.take j)
      rw [List.length_take] at hol
      obtain ⟨x, hx⟩ : ∃ x, x = ks.getD j 0 := ⟨_, rfl⟩
      have hmem : x ∈ ks := by rw [hx, List.getD_eq_getElem?_getD, List.getElem?_eq_getElem hlt]; exact List.getElem_mem hlt
      rw [← hx] at hc hT
      obtain ⟨F, hF⟩ : ∃ F, o x = some F := Option.isSome_iff_exists.1 ((HK.out.mem x).1 hmem)
      have hP := HH.out.below hbr
      have lk := hP.mp.look x (HWF.out x hmem)
      rw [hF] at lk
      rw [show frV (some F) = Value.pointer (some ⟨F, 0, none⟩) from rfl] at lk
      have q2 := hP.q2
      have KD := Lib.hid (dirty_any hP hF)
      have f0 := (hP.fr x F hF).f0
      obtain ⟨O, hO⟩ : ∃ O, O = dirtyOf fv (ks.take j) := ⟨_, rfl⟩
      rw [← hO] at hT hown hol
      have hol2 : O.length ≤ 1000 := by omega
      have hlt' : (j : Int) < (ks.length : Int) := by omega
      clear hcs hx hmem hF hP hO hol
      obtain ⟨z, hz⟩ : ∃ z, z = (fv x).first := ⟨_, rfl⟩
      rw [← hz] at hT KD f0
      clear hz
      by_cases h0 : 0 < z
      · rw [if_pos h0] at hT
        rw [show decide (0 < z) = true by simpa using h0] at KD
        have HT := Lib.hid hT
        clear hT h0
        go_wp2_with fail
        refine KD.out.mono ?_
        rintro e w5 ⟨rfl, rfl⟩
        go_wp2_with (at_builtin; have h00 := hown; have h01 := hb1r; have h02 := hol2; refine append_d (by rfl) _ _ (by rfl) w1 _ O (x, z) (by rfl) h00 h01 (by rfl) h02 ?_)
        intro v' w6 ho6 hb6
        have HO6 := Lib.hid ho6
        clear ho6 hown hol2
        go_wp2
        go_roundw
        case rel => exact ⟨j + 1, by omega, by go_num, by rw [HT.out]; exact HO6.out, hb6⟩
        case measure => simp [intOf]; omega
      · rw [if_neg h0, List.append_nil] at hT
        rw [show decide (0 < z) = false by simpa using h0] at KD
        have HT := Lib.hid hT
        have HO := Lib.hid hown
        clear hT h0 hown
        go_wp2_with fail
        refine KD.out.mono ?_
        rintro e w5 ⟨rfl, rfl⟩
        go_wp2
        go_roundw
        case rel => exact ⟨j + 1, by omega, by go_num, by rw [HT.out]; exact HO.out, hb1r⟩
        case measure => simp [intOf]; omega
    · have hj1 : (ks.length : Int) ≤ (j : Int) := by omega
      have hfull : ks.take j = ks := List.take_of_length_le (by omega)
      rw [hfull] at hown
      have HO := Lib.hid hown
      clear hown hfull
      go_wp2
      go_ret
      exact ⟨_, rfl, HO.out.base HB1.out.size, hbr⟩
theorem ibase {W : World} {B C : Nat} {v : Value} {n : Nat} {xs : List Value} (h : W.ownsRow B 3 1 v n xs) (hC : C ≤ B) : W.ownsRow C 3 1 v n xs := by
  obtain ⟨h1, h2⟩ := h
  refine ⟨h1, ?_⟩
  rcases h2 with h2 | ⟨g, cap, cur, hv, hg, r⟩
  · exact .inl h2
  · exact .inr ⟨g, cap, cur, hv, Nat.le_trans hC hg, r⟩
def dirtyNo (fv : Int → FrD) (ks : List Int) : List Int := (dirtyOf fv ks).map (·.1)
set_option maxRecDepth 100000 in
set_option maxHeartbeats 2000000 in
theorem nums_any (h : PlS w W D P L M n B T np now Q room MF k o fv) {ks : List Int} (hk : KeysOf o ks) (hwf : ∀ i ∈ ks, (Lit.int .i64 i).wf = true) :
    Calls Tryz.prog 47 #[.pointer (some ⟨Q, 0, none⟩)] W fun x w' => ∃ a c, x = .returned (.slice a (dirtyNo fv ks).length c) ∧ IRow w' a (dirtyNo fv ks) ∧ (∀ b off, a = some ⟨b, off, none⟩ → W.heap.size ≤ b) ∧ Below W.heap.size W w' := by
  have KD := Lib.hid (dirtyL_any h hk hwf)
  have hdl := dirtyOf_len fv ks
  have few := hk.few
  clear h hk hwf
  unfold dirtyNo
  obtain ⟨dl, hdle⟩ : ∃ dl, dl = dirtyOf fv ks := ⟨_, rfl⟩
  rw [← hdle] at KD hdl ⊢
  clear hdle
  go_enter Tryz.func47, Tryz.ntmps47
  go_wp2_with fail
  refine KD.out.mono ?_
  rintro x w1 ⟨v, rfl, hrow, hb1⟩
  obtain ⟨a, c, rfl, hat⟩ := hrow.at
  have HA := Lib.hid hat
  have HB1 := Lib.hid hb1
  clear hrow hat KD
  go_wp2
  go_loopw [3, 9] (fun v i wr => ∃ j : Nat, j ≤ dl.length ∧ i = .int .i64 j ∧ wr.ownsRow w1.heap.size 3 1 v ((dl.take j).map (·.1)).length (((dl.take j).map (·.1)).map encZ) ∧ Below w1.heap.size w1 wr) (fun _ i _ => dl.length - (intOf i).toNat)
  case atStart => exact ⟨0, Nat.zero_le _, rfl, World.ownsRow_nil _ _ _ _, Below.refl _ _⟩
  case round =>
    obtain ⟨j, hj, rfl, hown, hbr⟩ := hrel
    rename World => wr
    by_cases hlt : j < dl.length
    · rcases HA.out.below hbr with hnil | ⟨b, off, rfl, hcs⟩
      · rw [hnil] at hlt; exact absurd hlt (Nat.not_lt_zero _)
      obtain ⟨c0, c1⟩ := hcs j hlt
      have hT : (dl.take (j + 1)).map (·.1) = (dl.take j).map (·.1) ++ [(dl.getD j noD).1] := by
        rw [List.take_succ_eq_append_getElem hlt, List.map_append]; simp [List.getD_eq_getElem?_getD, hlt]
      have hol : ((dl.take j).map (·.1)).length ≤ 1000 := by rw [List.length_map, List.length_take]; omega
      obtain ⟨q, hq⟩ : ∃ q, q = dl.getD j noD := ⟨_, rfl⟩
      rw [← hq] at c0 c1 hT
      obtain ⟨x, z⟩ := q
      dsimp only at c0 c1 hT
      obtain ⟨O, hO⟩ : ∃ O, O = (dl.take j).map (·.1) := ⟨_, rfl⟩
      rw [← hO] at hT hown hol
      have HT := Lib.hid hT
      have hlt' : (j : Int) < (dl.length : Int) := by omega
      have hba := (Below.refl wr.heap.size wr).alloc (Nat.le_refl _) (.cells #[.int .i64 x, .int .i64 z] 73)
      have hbr2 := hbr.alloc hbr.size (.cells #[.int .i64 x, .int .i64 z] 73)
      have hown2 : (wr.alloc (.cells #[.int .i64 x, .int .i64 z] 73)).ownsRow w1.heap.size 3 1 _ O.length (O.map encZ) := World.ownsRow.kept hown (row := none) ⟨hba.os, hba.tape, hba.output, hba.size, fun k hk _ => hba.block k hk⟩ (by
        generalize Value.ownBlock _ = ob
        cases ob with
        | none => exact .inl rfl
        | some k => exact .inr (fun e => by cases e))
      have p0 : (wr.alloc (.cells #[.int .i64 x, .int .i64 z] 73)).cell? ⟨wr.heap.size, 0, none⟩ = some (.int .i64 x) := Dv.new_cell rfl rfl
      clear hcs hq hO hT hown hba
      go_upto_region 5 with fail
      generalize wr.alloc (.cells #[.int .i64 x, .int .i64 z] 73) = Y at *
      go_wp2_with (at_builtin; have h00 := hown2; have h01 := hbr2; have h02 := hol; refine append_i (by rfl) _ _ (by rfl) w1 _ O x (by rfl) h00 h01 (by rfl) h02 ?_)
      intro v' w6 ho6 hb6
      have HO6 := Lib.hid ho6
      clear ho6 hown2 hol
      go_wp2
      go_roundw
      case rel => exact ⟨j + 1, by omega, by go_num, by rw [HT.out, List.length_append, List.map_append]; exact HO6.out, hb6⟩
      case measure => simp [intOf]; omega
    · have hj1 : (dl.length : Int) ≤ (j : Int) := by omega
      have hfull : dl.take j = dl := List.take_of_length_le (by omega)
      rw [hfull] at hown
      obtain ⟨a9, c9, rfl, h9, h10⟩ := irow_of_owns (ibase hown HB1.out.size)
      have H9 := Lib.hid h9
      have H10 := Lib.hid h10
      clear hown hfull h9 h10
      go_wp2
      go_ret
      exact ⟨_, _, rfl, H9.out, H10.out, HB1.out.trans (hbr.mono HB1.out.size)⟩
end
end Go.Proofs.YtkemhkmabbladaaGreatDoor

namespace Go.Proofs.YtkemhkmabbladaaGreatDoor
open Go.RowKit
section
variable {w W X : World} {D P L M n B T np Q room MF k : Nat} {now : Nat → Pg} {o : Int → Option Nat} {fv : Int → FrD}
/-- Store of a page without cells that was made for it. -/
theorem c_store1 (h : Tk w W D P L M n B T np now .on) (hn : n ≤ 4096) (h3 : 5 + 4 * np ≤ n) (hB : B + 14 ≤ 900000) (q : PgV) (hl : q.l = []) (k : Nat) (hk : q.no = (k : Int)) (hkn : k < np) (hok : pgOk q.no q.g q.l = true) :
    Calls Tryz.prog 49 #[.pointer (some ⟨T, 0, none⟩), .slice (some ⟨W.heap.size, 0, none⟩) 1 1] (W.alloc (.cells #[.int .i64 q.no, .int .i64 q.g, .slice q.a q.l.length q.c] 36)).drew
      fun x w' => x = .returned (.int .i64 0) ∧ Tk w w' D P L M n (B + 14) T np (setPg now k (q.g, q.l)) .on ∧ Dv.Fr3 P L M W w' := by
  obtain ⟨s, q1, q2, q3⟩ := h
  have hba := ((Below.refl W.heap.size W).alloc (Nat.le_refl _) (.cells #[.int .i64 q.no, .int .i64 q.g, .slice q.a q.l.length q.c] 36)).drew
  obtain ⟨e1, e2, e3⟩ := stL_on [q] s now q2 q3
  have hmd : mdL np now [q] = (0, setPg now k (q.g, q.l)) := by
    unfold mdL
    rw [if_pos ⟨hok, by rw [hk]; omega⟩, hk, Int.toNat_natCast]
    rfl
  rw [hmd] at e1 e2
  have := store_l (q1.below hba) hn h3 (some ⟨W.heap.size, 0, none⟩) [q] 1 (by simpa using hB) (fun W1 hf => pgs_new q W 36 q1.d.lts.2 (fun _ => .inl hl) W1 ⟨hf.os, hf.tape, hf.output, hf.size, hf.block⟩) (fun i => by
    match i with
    | 0 => show q.l.length ≤ maxLen; rw [hl]; exact Nat.zero_le _
    | i + 1 => show 0 ≤ maxLen; exact Nat.zero_le _)
  refine this.mono ?_
  rintro x w' ⟨rfl, hs2, hf⟩
  rw [e1]
  exact ⟨rfl, ⟨_, hs2, e2, e3⟩, (Dv.Fr3.of_below hba).trans hf⟩
/-- A frame that isn't dirty. -/
theorem fl_clean (h : PlS w W D P L M n B T np now Q room MF k o fv) (no : Int) {F : Nat} (e : o no = some F) (HB PB CB : Nat) (hf : ¬ 0 < (fv no).first) :
    Calls Tryz.prog 48 #[.pointer (some ⟨F, 0, none⟩), .pointer (some ⟨HB, 0, none⟩), .pointer (some ⟨PB, 0, none⟩), .pointer (some ⟨CB, 0, none⟩)] W fun x w' => x = .returned (.int .i64 0) ∧ W = w' := by
  have KD := Lib.hid (dirty_any h e)
  rw [show decide (0 < (fv no).first) = false by simpa using hf] at KD
  clear h e hf
  go_enter Tryz.func48, Tryz.ntmps48
  go_wp2_with fail
  refine KD.out.mono ?_
  rintro x w5 ⟨rfl, rfl⟩
  go_wp2
  go_ret
  exact ⟨rfl, rfl⟩
/-- A frame that is ahead of the horizon. -/
theorem fl_busy (h : PlS w W D P L M n B T np now Q room MF k o fv) (no : Int) {F : Nat} (e : o no = some F) (HB PB CB : Nat) (hz : Int) (hb : W.cell? ⟨HB, 0, none⟩ = some (.int .i64 hz)) (hf : 0 < (fv no).first) (hg : hz < (fv no).g) :
    Calls Tryz.prog 48 #[.pointer (some ⟨F, 0, none⟩), .pointer (some ⟨HB, 0, none⟩), .pointer (some ⟨PB, 0, none⟩), .pointer (some ⟨CB, 0, none⟩)] W fun x w' => x = .returned (.int .i64 10) ∧ ∃ q, w' = W.drewN q := by
  have KD := Lib.hid (dirty_any h e)
  rw [show decide (0 < (fv no).first) = true by simpa using hf] at KD
  have p1 := (h.fr no F e).p.p1
  clear h e hf
  generalize (fv no).g = g at *
  have hd : decide (hz < g) = true := by simpa using hg
  go_enter Tryz.func48, Tryz.ntmps48
  go_wp2_with fail
  refine KD.out.mono ?_
  rintro x w5 ⟨rfl, rfl⟩
  go_wp2
  go_quiet (fail)
  go_wp2
  go_ret
  exact ⟨rfl, _, rfl⟩
set_option maxRecDepth 100000 in
set_option maxHeartbeats 4000000 in
/-- A frame that is stored. -/
theorem fl_store (h : PlS w W D P L M n B T np now Q room MF k o fv) (hn : n ≤ 4096) (h3 : 5 + 4 * np ≤ n) (hB : B + 14 ≤ 900000) (no : Nat) (hno : no < np) {F : Nat} (e : o (no : Int) = some F) (HB PB CB : Nat) (hz cnt : Int) (hb : W.cell? ⟨HB, 0, none⟩ = some (.int .i64 hz)) (pb : W.cell? ⟨PB, 0, none⟩ = some (.pointer (some ⟨Q, 0, none⟩))) (cb : W.cell? ⟨CB, 0, none⟩ = some (.int .i64 cnt)) (cf : W.frozen? ⟨CB, 0, none⟩ = false)
    (hc : 0 ≤ cnt ∧ cnt ≤ 1000) (hne : CB ≠ P ∧ CB ≠ L ∧ CB ≠ M ∧ CB ≠ F ∧ w.heap.size ≤ CB) (hF : ∀ i F', o i = some F' → F' ≠ CB) (hR : ∀ i F' r, o i = some F' → (fv i).v.ownBlock = some r → r ≠ CB) (hf : 0 < (fv no).first) (hg : (fv no).g ≤ hz) (hl : (fv no).l = []) (hok : pgOk no (fv no).g [] = true) :
    Calls Tryz.prog 48 #[.pointer (some ⟨F, 0, none⟩), .pointer (some ⟨HB, 0, none⟩), .pointer (some ⟨PB, 0, none⟩), .pointer (some ⟨CB, 0, none⟩)] W fun x w' => x = .returned (.int .i64 0) ∧
      PlS w w' D P L M n (B + 14) T np (setPg now no ((fv no).g, [])) Q room MF k o (updV fv no ⟨(fv no).g, (fv no).v, [], 0, (fv no).pins⟩) ∧ w'.cell? ⟨CB, 0, none⟩ = some (.int .i64 (cnt + 1)) ∧ w'.frozen? ⟨CB, 0, none⟩ = false ∧ ∀ b, b < W.heap.size → b ≠ P → b ≠ L → b ≠ M → b ≠ F → b ≠ CB → w'.heap[b]? = W.heap[b]? := by
  have KD := Lib.hid (dirty_any h e)
  rw [show decide (0 < (fv no).first) = true by simpa using hf] at KD
  have hfr := h.fr no F e
  obtain ⟨p0, p1, p2, pf⟩ := hfr.p
  have q0 := h.q0
  obtain ⟨a, c, hv, _, _⟩ := row_form hfr.row
  rw [hl] at hv
  have hv2 : (fv no).v = .slice a 0 c := hv
  rw [hv2] at p2
  have KS := Lib.hid (fun (X : World) (hX : Below W.heap.size W X) => c_store1 (h.tk.below hX) hn h3 hB ⟨no, (fv no).g, a, c, []⟩ rfl no rfl hno hok)
  have HH := Lib.hid h
  have HE := Lib.hid e
  have HV := Lib.hid hv2
  have HL := Lib.hid hl
  clear h e hf hfr hv hv2 hok hl
  obtain ⟨g, hgg⟩ : ∃ g, g = (fv no).g := ⟨_, rfl⟩
  have HG := Lib.hid hgg
  rw [← hgg] at p1 KS hg
  clear hgg
  dsimp only at KS
  have hd : decide (hz < g) = false := by simp; omega
  go_enter Tryz.func48, Tryz.ntmps48
  go_wp2_with fail
  refine KD.out.mono ?_
  rintro x w5 ⟨rfl, rfl⟩
  go_wp2
  go_quiet (fail)
  go_upto_region 5 with fail
  have hbV := below_drewN (Below.refl W.heap.size W) nq
  have e0 : (W.drewN nq).cell? ⟨F, 0, none⟩ = some (.int .i64 (no : Int)) := p0
  have e1 : (W.drewN nq).cell? ⟨F, 1, none⟩ = some (.int .i64 g) := p1
  have e2 : (W.drewN nq).cell? ⟨F, 2, none⟩ = some (.slice a 0 c) := p2
  have eq0 : (W.drewN nq).cell? ⟨Q, 0, none⟩ = some (.pointer (some ⟨T, 0, none⟩)) := q0
  have epb : (W.drewN nq).cell? ⟨PB, 0, none⟩ = some (.pointer (some ⟨Q, 0, none⟩)) := pb
  have ecb : (W.drewN nq).cell? ⟨CB, 0, none⟩ = some (.int .i64 cnt) := cb
  have ecf : (W.drewN nq).frozen? ⟨CB, 0, none⟩ = false := cf
  have hkV : ∀ b, b < W.heap.size → (W.drewN nq).heap[b]? = W.heap[b]? := fun b _ => rfl
  have hzV : (W.drewN nq).heap.size = W.heap.size := rfl
  clear p0 p1 p2 q0 pb cb cf pf hb
  generalize W.drewN nq = V at *
  have KS1 := Lib.hid (KS.out V hbV)
  have HP := Lib.hid (HH.out.below hbV)
  have HKV := Lib.hid hkV
  have HZV := Lib.hid hzV
  have c0 := keep_alloc (o := .cells #[.int .i64 (no : Int), .int .i64 g, .slice a 0 c] 36) e0
  have c1 := keep_alloc (o := .cells #[.int .i64 (no : Int), .int .i64 g, .slice a 0 c] 36) e1
  have c2 := keep_alloc (o := .cells #[.int .i64 (no : Int), .int .i64 g, .slice a 0 c] 36) e2
  have cq := keep_alloc (o := .cells #[.int .i64 (no : Int), .int .i64 g, .slice a 0 c] 36) eq0
  have cp := keep_alloc (o := .cells #[.int .i64 (no : Int), .int .i64 g, .slice a 0 c] 36) epb
  clear hbV hkV hzV KS HH
  go_cut [6] (fun s wx => s = .int .i64 0 ∧ Hid (Tk w wx D P L M n (B + 14) T np (setPg now no (g, [])) .on) ∧ Hid (Dv.Fr3 P L M V wx))
  case first =>
    go_region_with (first | (go_at_call 49; refine KS1.out.mono ?_; rintro x w9 ⟨rfl, hk9, hf9⟩))
    all_goals (go_wp2_with fail; go_meet)
    all_goals exact ⟨rfl, hk9, hf9⟩
  case rest =>
  obtain ⟨rfl, hk, hfx⟩ := hcut
  rename World => wc
  obtain ⟨n1, n2, n3, n4, n5⟩ := hne
  have hP1 := HP.out.fr3 hk.out hfx.out
  have hfr := hP1.fr no F HE.out
  have f3 := hfr.f0
  have ff := hfr.p.pf 3
  have b1 := hfx.out.cell ecb n1 n2 n3
  have b1f : wc.frozen? ⟨CB, 0, none⟩ = false := (World.frozen?_of_block (a := ⟨CB, 0, none⟩) (hfx.out.block CB (Dv.block_lt ecb) n1 n2 n3)).trans ecf
  have hgY := grown_cell wc F 3 (.int .i64 0)
  have oth : ∀ {v : Value} (j : Nat), 3 ≠ j → wc.cell? ⟨F, j, none⟩ = some v → (wc.setCell ⟨F, 3, none⟩ (.int .i64 0)).cell? ⟨F, j, none⟩ = some v := fun j hne hc => by
    rw [World.cell?_setCell_other _ _ _ _ (fun e => by injection e with _ e; exact hne e)]; exact hc
  have hFrY : FrIs (wc.setCell ⟨F, 3, none⟩ (.int .i64 0)) F no ⟨(fv no).g, (fv no).v, [], 0, (fv no).pins⟩ :=
    ⟨⟨oth 0 (by decide) hfr.p.p0, oth 1 (by decide) hfr.p.p1, oth 2 (by decide) hfr.p.p2, fun i => by rw [World.frozen?_setCell]; exact hfr.p.pf i⟩, World.cell?_setCell_same _ _ _ f3, oth 4 (by decide) hfr.f1,
      row_block (by have := hfr.row; rw [HL.out] at this; exact this) (fun r hr => hgY.block r (row_lt hfr.row hr) (fun e => by injection e with e; exact (hP1.rs no F r HE.out hr).2 no F HE.out e)), by simp⟩
  have hY := hP1.put HE.out hgY hFrY (.inl rfl)
  have b2 : (wc.setCell ⟨F, 3, none⟩ (.int .i64 0)).cell? ⟨CB, 0, none⟩ = some (.int .i64 cnt) := (World.cell?_of_block (a := ⟨CB, 0, none⟩) (Below.heap_setCell wc ⟨F, 3, none⟩ _ CB n4)).trans b1
  have b2f : (wc.setCell ⟨F, 3, none⟩ (.int .i64 0)).frozen? ⟨CB, 0, none⟩ = false := by rw [World.frozen?_setCell]; exact b1f
  have hZ := hY.other (grown_cell _ CB 0 (.int .i64 (cnt + 1))) ⟨n1, n2, n3⟩ ⟨_, b2⟩ hF (fun i F' r ei hr => by
    unfold updV at hr
    split at hr
    · rename_i q; subst q; exact hR _ F' r ei hr
    · exact hR i F' r ei hr) n5
  have b3 : ((wc.setCell ⟨F, 3, none⟩ (.int .i64 0)).setCell ⟨CB, 0, none⟩ (.int .i64 (cnt + 1))).cell? ⟨CB, 0, none⟩ = some (.int .i64 (cnt + 1)) := World.cell?_setCell_same _ _ _ b2
  have b3f : ((wc.setCell ⟨F, 3, none⟩ (.int .i64 0)).setCell ⟨CB, 0, none⟩ (.int .i64 (cnt + 1))).frozen? ⟨CB, 0, none⟩ = false := by rw [World.frozen?_setCell]; exact b2f
  have hkp : ∀ b, b < W.heap.size → b ≠ P → b ≠ L → b ≠ M → b ≠ F → b ≠ CB → ((wc.setCell ⟨F, 3, none⟩ (.int .i64 0)).setCell ⟨CB, 0, none⟩ (.int .i64 (cnt + 1))).heap[b]? = W.heap[b]? := fun b hb h1 h2 h3 h4 h5 =>
    (((Below.heap_setCell _ ⟨CB, 0, none⟩ _ b h5).trans (Below.heap_setCell wc ⟨F, 3, none⟩ _ b h4)).trans (hfx.out.block b (by rw [HZV.out]; exact hb) h1 h2 h3)).trans (HKV.out b hb)
  rw [HG.out] at hZ
  have HZ := Lib.hid hZ
  have HB3 := Lib.hid b3
  have HB3f := Lib.hid b3f
  have HKP := Lib.hid hkp
  clear hZ b3 b3f hkp hY hFrY hgY oth hfr hP1 hk hfx e0 e1 e2 eq0 epb ecb ecf c0 c1 c2 cq cp KS1 HP HKV KD hF hR
  have hcz : IntKind.i64.wrap (cnt + 1) = cnt + 1 := IntWalk.i64_in _ (by omega)
  go_wp2
  go_ret
  exact ⟨rfl, HZ.out, HB3.out, HB3f.out, HKP.out⟩
end
end Go.Proofs.YtkemhkmabbladaaGreatDoor

namespace Go.Proofs.YtkemhkmabbladaaGreatDoor
open Go.RowKit
section
variable {w W X : World} {D P L M n B T np Q room MF k : Nat} {now : Nat → Pg} {o : Int → Option Nat} {fv : Int → FrD}
theorem dirtyNo_one (fv : Int → FrD) (no : Int) (hf : 0 < (fv no).first) : dirtyNo fv [no] = [no] := by
  unfold dirtyNo dirtyOf
  rw [List.filter_cons_of_pos (by simpa using hf)]
  rfl
set_option maxRecDepth 100000 in
set_option maxHeartbeats 4000000 in
theorem flush_one (h : PlS w W D P L M n B T np now Q room MF k o fv) (no : Int) (hwf : (Lit.int .i64 no).wf = true) {F : Nat} (hk : KeysOf o [no]) (e : o no = some F) (hf : 0 < (fv no).first) (hz r cnt : Int) (Z : World → Prop)
    (hcl : ∀ X HB PB CB, Below W.heap.size W X → W.heap.size ≤ CB → X.cell? ⟨HB, 0, none⟩ = some (.int .i64 hz) → X.cell? ⟨PB, 0, none⟩ = some (.pointer (some ⟨Q, 0, none⟩)) → X.cell? ⟨CB, 0, none⟩ = some (.int .i64 0) → X.frozen? ⟨CB, 0, none⟩ = false →
      Calls Tryz.prog 48 #[.pointer (some ⟨F, 0, none⟩), .pointer (some ⟨HB, 0, none⟩), .pointer (some ⟨PB, 0, none⟩), .pointer (some ⟨CB, 0, none⟩)] X fun x w' => x = .returned (.int .i64 r) ∧ (w'.cell? ⟨CB, 0, none⟩ = some (.int .i64 cnt) ∧ Z w')) :
    Calls Tryz.prog 15 #[.pointer (some ⟨Q, 0, none⟩), .int .i64 hz, .slice none 0 0] W fun x w' => x = .returned (.tuple #[.int .i64 cnt, .int .i64 r]) ∧ Z w' := by
  have hb1 := (Below.refl W.heap.size W).alloc (Nat.le_refl _) (.cells #[.pointer (some ⟨Q, 0, none⟩)] 25)
  have hs1 : (W.alloc (.cells #[.pointer (some ⟨Q, 0, none⟩)] 25)).heap.size = W.heap.size + 1 := by simp
  have hb2 := hb1.alloc hb1.size (.cells #[.int .i64 hz] 3)
  have p0 : ((W.alloc (.cells #[.pointer (some ⟨Q, 0, none⟩)] 25)).alloc (.cells #[.int .i64 hz] 3)).cell? ⟨W.heap.size, 0, none⟩ = some (.pointer (some ⟨Q, 0, none⟩)) := Dv.keep_cell ((Below.refl _ _).alloc (Nat.le_refl _) _) (Dv.new_cell rfl rfl)
  have p1 : ((W.alloc (.cells #[.pointer (some ⟨Q, 0, none⟩)] 25)).alloc (.cells #[.int .i64 hz] 3)).cell? ⟨W.heap.size + 1, 0, none⟩ = some (.int .i64 hz) := Dv.new_cell hs1.symm rfl
  have h1 := h.below hb2
  have HCL := Lib.hid hcl
  clear h hcl hs1 hb1
  go_enter Tryz.func15, Tryz.ntmps15
  go_upto_region 1 with fail
  generalize (W.alloc (.cells #[.pointer (some ⟨Q, 0, none⟩)] 25)).alloc (.cells #[.int .i64 hz] 3) = X at *
  have KN := Lib.hid (nums_any h1 hk (fun i hi => by rw [List.mem_singleton] at hi; rw [hi]; exact hwf))
  rw [dirtyNo_one fv no hf] at KN
  have H1 := Lib.hid h1
  have HE := Lib.hid e
  have HB2 := Lib.hid hb2
  have HWF := Lib.hid hwf
  clear h1 e hk hf hb2 hwf
  go_wp2_with fail
  refine KN.out.mono ?_
  rintro x w1 ⟨a, c, rfl, hir, _, hb1⟩
  have h2 := H1.out.below hb1
  have hb3 := (Below.refl w1.heap.size w1).alloc (Nat.le_refl _) (.cells #[.int .i64 0] 3)
  have h3 := h2.below hb3
  have hir3 := hir.below hb3
  have q0 := Dv.keep_cell hb3 (Dv.keep_cell hb1 p0)
  have q1 := Dv.keep_cell hb3 (Dv.keep_cell hb1 p1)
  have q2 : (w1.alloc (.cells #[.int .i64 0] 3)).cell? ⟨w1.heap.size, 0, none⟩ = some (.int .i64 0) := Dv.new_cell rfl rfl
  have q2f : (w1.alloc (.cells #[.int .i64 0] 3)).frozen? ⟨w1.heap.size, 0, none⟩ = false := World.frozen?_alloc_at _ _ _ _ rfl
  have hle : W.heap.size ≤ w1.heap.size := Nat.le_trans HB2.out.size hb1.size
  have hbX : Below W.heap.size W (w1.alloc (.cells #[.int .i64 0] 3)) := (HB2.out.trans (hb1.mono HB2.out.size)).trans (hb3.mono hle)
  have KC := HCL.out _ (W.heap.size + 1) W.heap.size w1.heap.size hbX hle q1 q0 q2 q2f
  have KE := Lib.hid (each_one Q MF k o 48 #[.pointer (some ⟨W.heap.size + 1, 0, none⟩), .pointer (some ⟨W.heap.size, 0, none⟩), .pointer (some ⟨w1.heap.size, 0, none⟩)] a c no F _ HWF.out (enters_of Tryz.func48 (by kernel_rfl) rfl) h3.q2 h3.mp hir3 HE.out r _ KC)
  clear KC hbX h2 h3 hir hir3 hb1 hb3 q1 q2 q2f hle H1 HCL HE HWF KN p0 p1 HB2
  go_upto_region 4 with fail
  generalize w1.alloc (.cells #[.int .i64 0] 3) = Y at *
  go_wp2_with fail
  refine KE.out.mono ?_
  rintro x w5 ⟨rfl, hc5, hz5⟩
  have HZ5 := Lib.hid hz5
  clear hz5 KE q0
  go_wp2
  exact bodyPost_ret (v := .tuple #[.int .i64 cnt, .int .i64 r]) (by simp [results, Tryz.results15, go_sem]) rfl ⟨rfl, HZ5.out⟩
/-- Ahead of the horizon. -/
theorem flush_busy (h : PlS w W D P L M n B T np now Q room MF k o fv) (no : Int) (hwf : (Lit.int .i64 no).wf = true) {F : Nat} (hk : KeysOf o [no]) (e : o no = some F) (hf : 0 < (fv no).first) (hz : Int) (hg : hz < (fv no).g) :
    Calls Tryz.prog 15 #[.pointer (some ⟨Q, 0, none⟩), .int .i64 hz, .slice none 0 0] W fun x w' => x = .returned (.tuple #[.int .i64 0, .int .i64 10]) ∧ PlS w w' D P L M n B T np now Q room MF k o fv ∧ Below W.heap.size W w' :=
  flush_one h no hwf hk e hf hz 10 0 (fun w' => PlS w w' D P L M n B T np now Q room MF k o fv ∧ Below W.heap.size W w') (fun X HB PB CB hbX hle hb pb cb cf => by
    refine (fl_busy (h.below hbX) no e HB PB CB hz hb hf hg).mono ?_
    rintro x w' ⟨rfl, q, rfl⟩
    have hbd := below_drewN (Below.refl X.heap.size X) q
    exact ⟨rfl, Dv.keep_cell hbd cb, (h.below hbX).below hbd, hbX.trans (hbd.mono hbX.size)⟩)
/-- Not ahead of it. -/
theorem flush_put (h : PlS w W D P L M n B T np now Q room MF k o fv) (hn : n ≤ 4096) (h3 : 5 + 4 * np ≤ n) (hB : B + 14 ≤ 900000) (no : Nat) (hno : no < np) (hwf : (Lit.int .i64 (no : Int)).wf = true) {F : Nat} (hk : KeysOf o [(no : Int)]) (e : o (no : Int) = some F) (hf : 0 < (fv no).first) (hz : Int) (hg : (fv no).g ≤ hz) (hl : (fv no).l = []) (hok : pgOk no (fv no).g [] = true) :
    Calls Tryz.prog 15 #[.pointer (some ⟨Q, 0, none⟩), .int .i64 hz, .slice none 0 0] W fun x w' => x = .returned (.tuple #[.int .i64 1, .int .i64 0]) ∧
      PlS w w' D P L M n (B + 14) T np (setPg now no ((fv no).g, [])) Q room MF k o (updV fv no ⟨(fv no).g, (fv no).v, [], 0, (fv no).pins⟩) ∧ ∀ b, b < W.heap.size → b ≠ P → b ≠ L → b ≠ M → b ≠ F → w'.heap[b]? = W.heap[b]? :=
  flush_one h no hwf hk e hf hz 0 1 (fun w' => PlS w w' D P L M n (B + 14) T np (setPg now no ((fv no).g, [])) Q room MF k o (updV fv no ⟨(fv no).g, (fv no).v, [], 0, (fv no).pins⟩) ∧ ∀ b, b < W.heap.size → b ≠ P → b ≠ L → b ≠ M → b ≠ F → w'.heap[b]? = W.heap[b]?) (fun X HB PB CB hbX hle hb pb cb cf => by
    have l1 := h.lts
    have l2 := h.tk.lts
    have l3 := l1.2.2 _ F e
    have l4 := h.bw.size
    refine (fl_store (h.below hbX) hn h3 hB no hno e HB PB CB hz 0 hb pb cb cf ⟨by omega, by omega⟩ ⟨by omega, by omega, by omega, by omega, by omega⟩ (fun i F' ei => by have := l1.2.2 i F' ei; omega) (fun i F' r ei hr => by have := row_lt (h.fr i F' ei).row hr; omega) hf hg hl hok).mono ?_
    rintro x w' ⟨rfl, hp, hc, _, hkp⟩
    exact ⟨rfl, hc, hp, fun b hb h1 h2 h3 h4 => (hkp b (Nat.lt_of_lt_of_le hb hbX.size) h1 h2 h3 h4 (by omega)).trans (hbX.block b hb)⟩)
end
end Go.Proofs.YtkemhkmabbladaaGreatDoor
