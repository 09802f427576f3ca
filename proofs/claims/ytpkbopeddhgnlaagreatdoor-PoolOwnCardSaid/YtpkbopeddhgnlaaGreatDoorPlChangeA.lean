/-
  THE CONTRACTS OF pool's Change, of any page.
-/
import Derived.Test.YtpkbopeddhgnlaaGreatDoorPlChange
import Derived.Test.YtpkbopeddhgnlaaGreatDoorPlKeptA
import Derived.Deep.Cut
import Derived.Deep.CutRange
import Derived.Deep.DeepCutAuto
namespace Go.Proofs.YtpkbopeddhgnlaaGreatDoor
open Go.RowKit
section
variable {w W X : World} {D P L M n B T np Q room MF k : Nat} {now : Nat → Pg} {o : Int → Option Nat} {fv : Int → FrD}
/-- What becomes of a frame that is changed. -/
def chFrA (x : FrD) (g : Int) (v : Value) (l : List (ByteArray × ByteArray)) : FrD := ⟨g, v, l, if 0 < x.first then x.first else g, x.pins⟩
set_option maxRecDepth 100000 in
set_option maxHeartbeats 4000000 in
theorem chg_any (h : PlS w W D P L M n B T np now Q room MF k o fv) (no : Int) {F : Nat} (e : o no = some F) (XB GB : Nat) (no2 g2 : Int) (a2 : Option Addr) (c2 : Nat) (l : List (ByteArray × ByteArray)) (hl : l.length ≤ 1000) (hsz : ∀ i, i < l.length → (l.getD i noCl).1.size ≤ 281474976710656 ∧ (l.getD i noCl).2.size ≤ 281474976710656) (ha : ClsAt W a2 l) (hx : Pg3 W XB no2 g2 (.slice a2 l.length c2)) (hz : a2 = none ∨ ∃ b off, a2 = some ⟨b, off, none⟩) (gb : W.cell? ⟨GB, 0, none⟩ = some (.int .i64 g2)) (hGF : GB ≠ F) (hok : pgOk no2 g2 l = true) (hno : no2 = no) (hlt : (fv no).g < g2) :
    Calls Tryz.prog 31 #[.pointer (some ⟨F, 0, none⟩), .pointer (some ⟨XB, 0, none⟩), .pointer (some ⟨GB, 0, none⟩)] W fun x w' => x = .returned (.int .i64 0) ∧ (∃ v, (∀ r, v.ownBlock = some r → W.heap.size ≤ r) ∧ PlS w w' D P L M n B T np now Q room MF k o (updV fv no (chFrA (fv no) g2 v l))) ∧ (∀ b, b < W.heap.size → b ≠ F → w'.heap[b]? = W.heap[b]?) := by
  have hf := h.fr no F e
  obtain ⟨x0, x1, x2, xf⟩ := hx
  have f1 := hf.p.p1
  have KR : Hid (∀ X : World, ClsAt X a2 l → Calls Tryz.prog 32 #[.agg #[.int .i64 no2, .int .i64 g2, .slice a2 l.length c2]] X fun e w' => e = .returned (.bool true) ∧ Below X.heap.size X w') := fun X hX => by
    have := right_any no2 g2 a2 l c2 X (by unfold maxLen; omega) hX
    rw [hok] at this; exact this
  have KK := Lib.hid (fun X (hX : Below W.heap.size W X) => kept_any no2 g2 a2 l c2 X hl hsz (ha.below hX) hz)
  have HA := Lib.hid ha
  have HLL : Hid (l.length ≤ 1000) := hl
  obtain ⟨nl, hnl⟩ : ∃ nl, nl = l.length := ⟨_, rfl⟩
  have HNL := Lib.hid hnl
  rw [← hnl] at x2 KR KK hl
  clear ha hsz hnl
  obtain ⟨g, hg⟩ : ∃ g, g = (fv no).g := ⟨_, rfl⟩
  have HG := Lib.hid hg
  rw [← hg] at f1 hlt
  have HH := Lib.hid h
  have HE := Lib.hid e
  subst hno
  clear h e hf hg hok hz xf
  have hng : decide (g2 ≤ g) = false := by simp; omega
  have hnn : (g2 != g2) = false := by simp
  go_enter Tryz.func31, Tryz.ntmps31
  go_upto_region 1 with fail
  go_cut [23] (fun s wx => s = .bool false ∧ Below W.heap.size W wx)
  case first =>
    go_region_held3 (fun w' => w'.cell? ⟨XB, 0, none⟩ = some (.int .i64 no2) ∧ w'.cell? ⟨XB, 1, none⟩ = some (.int .i64 g2) ∧ w'.cell? ⟨XB, 2, none⟩ = some (.slice a2 nl c2) ∧ w'.cell? ⟨F, 1, none⟩ = some (.int .i64 g) ∧ w'.cell? ⟨GB, 0, none⟩ = some (.int .i64 g2))
      ((refine ⟨?_, ?_, ?_, ?_, ?_⟩ <;> (repeat (first | with_reducible assumption | with_reducible refine keep_alloc ?_ | with_reducible refine keep_drew ?_ | with_reducible refine keep_cell (by assumption) ?_))))
      (first
        | (go_at_call 32; refine (KR.out _ (by exact HA.out)).mono ?_; rintro x w98 ⟨rfl, hb98⟩))
    all_goals go_wp2_with fail
    all_goals go_meet
    all_goals exact ⟨rfl, ((Below.refl W.heap.size W).drew).trans (hb98.mono (Nat.le_refl _))⟩
  case rest =>
  obtain ⟨rfl, hbx⟩ := hcut
  rename World => wc
  have H1 := Lib.hid (HH.out.below hbx)
  have y0 := Dv.keep_cell hbx x0
  have y1 := Dv.keep_cell hbx x1
  have y2 := Dv.keep_cell hbx x2
  have gb1 := Dv.keep_cell hbx gb
  have HBX := Lib.hid hbx
  clear x0 x1 x2 f1 gb KR hbx hng hnn HA
  go_wp2_with fail
  refine (KK.out _ HBX.out).mono ?_
  rintro x w2 ⟨a', c', rfl, hrow, hb2⟩
  rw [← HNL.out] at hrow ⊢
  have h2 := H1.out.below hb2
  have hf2 := h2.fr no2 F HE.out
  have gb2 := Dv.keep_cell hb2 gb1
  obtain ⟨q0, q1, q2, qf⟩ := hf2.p
  have hgY := ((grown_cell w2 F 0 (.int .i64 no2)).trans (grown_cell _ F 1 (.int .i64 g2))).trans (grown_cell _ F 2 (.slice a' nl c'))
  have hFlt : F < wc.heap.size := (H1.out.fr no2 F HE.out).p.lt
  have hro : ∀ r, (Value.slice a' nl c').ownBlock = some r → wc.heap.size ≤ r ∧ r < w2.heap.size := fun r hr => World.ownsRow.lt hrow r hr
  have HRB := Lib.hid (fun r (hr : (Value.slice a' nl c').ownBlock = some r) => Nat.le_trans HBX.out.size (hro r hr).1)
  have hrowY : RowC (((w2.setCell ⟨F, 0, none⟩ (.int .i64 no2)).setCell ⟨F, 1, none⟩ (.int .i64 g2)).setCell ⟨F, 2, none⟩ (.slice a' nl c')) 0 (.slice a' nl c') l := RowC.base (World.ownsRow.kept hrow hgY (by
      cases ho : (Value.slice a' nl c').ownBlock with
      | none => exact .inl rfl
      | some k => exact .inr (fun e => by
          injection e with e
          have := (hro k ho).1
          omega))) (Nat.zero_le _)
  have oth : ∀ {U : World} {v : Value} (i j : Nat) (u : Value), i ≠ j → U.cell? ⟨F, j, none⟩ = some v → (U.setCell ⟨F, i, none⟩ u).cell? ⟨F, j, none⟩ = some v := fun i j u hne hc => by
    rw [World.cell?_setCell_other _ _ _ _ (fun e => by injection e with _ e; exact hne e)]; exact hc
  have hFrY : FrIs (((w2.setCell ⟨F, 0, none⟩ (.int .i64 no2)).setCell ⟨F, 1, none⟩ (.int .i64 g2)).setCell ⟨F, 2, none⟩ (.slice a' nl c')) F no2 ⟨g2, .slice a' nl c', l, (fv no2).first, (fv no2).pins⟩ :=
    ⟨hf2.p.put no2 g2 (.slice a' nl c'), oth 2 3 _ (by decide) (oth 1 3 _ (by decide) (oth 0 3 _ (by decide) hf2.f0)), oth 2 4 _ (by decide) (oth 1 4 _ (by decide) (oth 0 4 _ (by decide) hf2.f1)), hrowY, HLL.out⟩
  have hlts := H1.out.lts
  have hrr : ∀ r, (Value.slice a' nl c').ownBlock = some r → (r ≠ P ∧ r ≠ L ∧ r ≠ M ∧ r ≠ Q ∧ r ≠ MF) ∧ ∀ j F', o j = some F' → r ≠ F' := fun r hr => by
    have h1 := (hro r hr).1
    have h3 := H1.out.tk.lts
    exact ⟨⟨by omega, by omega, by omega, by omega, by omega⟩, fun j F' ej => by have := hlts.2.2 j F' ej; omega⟩
  have hY := h2.put HE.out hgY hFrY (.inr hrr)
  have gbY : (((w2.setCell ⟨F, 0, none⟩ (.int .i64 no2)).setCell ⟨F, 1, none⟩ (.int .i64 g2)).setCell ⟨F, 2, none⟩ (.slice a' nl c')).cell? ⟨GB, 0, none⟩ = some (.int .i64 g2) :=
    (World.cell?_of_block (a := ⟨GB, 0, none⟩) (hgY.block GB (Dv.block_lt gb2) (fun e => by injection e with e; exact hGF e))).trans gb2
  have hkeep : ∀ b, b < W.heap.size → b ≠ F → (((w2.setCell ⟨F, 0, none⟩ (.int .i64 no2)).setCell ⟨F, 1, none⟩ (.int .i64 g2)).setCell ⟨F, 2, none⟩ (.slice a' nl c')).heap[b]? = W.heap[b]? := fun b hb hne => by
    have l1 := HBX.out.size
    have l2 := hb2.size
    exact ((hgY.block b (by omega) (fun e => by injection e with e; exact hne e)).trans (hb2.block b (by omega))).trans (HBX.out.block b hb)
  have HKP := Lib.hid hkeep
  have HY := Lib.hid hY
  have HFY := Lib.hid hFrY
  have HRR := Lib.hid hrr
  clear hkeep hY hFrY hrr hrow hb2 h2 hf2 hgY hro hrowY oth hlts gb1 gb2 y0 y1 y2
  go_upto_region 4 with fail
  generalize ((w2.setCell ⟨F, 0, none⟩ (.int .i64 no2)).setCell ⟨F, 1, none⟩ (.int .i64 g2)).setCell ⟨F, 2, none⟩ (.slice a' nl c') = Y at *
  have KD := Lib.hid (dirty_any HY.out HE.out)
  have hv : updV fv no2 ⟨g2, .slice a' nl c', l, (fv no2).first, (fv no2).pins⟩ no2 = ⟨g2, .slice a' nl c', l, (fv no2).first, (fv no2).pins⟩ := by unfold updV; rw [if_pos rfl]
  rw [hv] at KD
  clear q0 q1 q2 qf hv KK
  by_cases hfi : 0 < (fv no2).first
  · rw [show decide (0 < (fv no2).first) = true by simpa using hfi] at KD
    have R : Hid (∃ v, (∀ r, v.ownBlock = some r → W.heap.size ≤ r) ∧ PlS w Y D P L M n B T np now Q room MF k o (updV fv no2 (chFrA (fv no2) g2 v l))) := ⟨.slice a' nl c', HRB.out, by unfold chFrA; rw [if_pos hfi]; exact HY.out⟩
    clear hfi
    go_wp2_with fail
    refine KD.out.mono ?_
    rintro x w5 ⟨rfl, rfl⟩
    go_wp2
    go_ret
    exact ⟨rfl, R.out, HKP.out⟩
  · rw [show decide (0 < (fv no2).first) = false by simpa using hfi] at KD
    have f3 := HFY.out.f0
    have ff : Y.frozen? ⟨F, 3, none⟩ = false := HFY.out.p.pf 3
    have hgZ := grown_cell Y F 3 (.int .i64 g2)
    have oth : ∀ {v : Value} (j : Nat), 3 ≠ j → Y.cell? ⟨F, j, none⟩ = some v → (Y.setCell ⟨F, 3, none⟩ (.int .i64 g2)).cell? ⟨F, j, none⟩ = some v := fun j hne hc => by
      rw [World.cell?_setCell_other _ _ _ _ (fun e => by injection e with _ e; exact hne e)]; exact hc
    have hFrZ : FrIs (Y.setCell ⟨F, 3, none⟩ (.int .i64 g2)) F no2 ⟨g2, .slice a' nl c', l, g2, (fv no2).pins⟩ :=
      ⟨⟨oth 0 (by decide) HFY.out.p.p0, oth 1 (by decide) HFY.out.p.p1, oth 2 (by decide) HFY.out.p.p2, fun i => by rw [World.frozen?_setCell]; exact HFY.out.p.pf i⟩, World.cell?_setCell_same _ _ _ f3, oth 4 (by decide) HFY.out.f1,
        row_block HFY.out.row (fun r hr => hgZ.block r (row_lt HFY.out.row hr) (fun e => by injection e with e; exact (HRR.out r hr).2 no2 F HE.out e)), HLL.out⟩
    have hZ := HY.out.put HE.out hgZ hFrZ (.inr HRR.out)
    have huu : updV (updV fv no2 ⟨g2, .slice a' nl c', l, (fv no2).first, (fv no2).pins⟩) no2 ⟨g2, .slice a' nl c', l, g2, (fv no2).pins⟩ = updV fv no2 ⟨g2, .slice a' nl c', l, g2, (fv no2).pins⟩ := by
      funext j; unfold updV; split <;> rfl
    rw [huu] at hZ
    have R : Hid (∃ v, (∀ r, v.ownBlock = some r → W.heap.size ≤ r) ∧ PlS w (Y.setCell ⟨F, 3, none⟩ (.int .i64 g2)) D P L M n B T np now Q room MF k o (updV fv no2 (chFrA (fv no2) g2 v l))) := ⟨.slice a' nl c', HRB.out, by unfold chFrA; rw [if_neg hfi]; exact hZ⟩
    have K2 : Hid (∀ b, b < W.heap.size → b ≠ F → (Y.setCell ⟨F, 3, none⟩ (.int .i64 g2)).heap[b]? = W.heap[b]?) := fun b hb hne => (Below.heap_setCell Y ⟨F, 3, none⟩ _ b hne).trans (HKP.out b hb hne)
    clear hgZ oth hFrZ hZ huu hfi
    go_wp2_with fail
    refine KD.out.mono ?_
    rintro x w5 ⟨rfl, rfl⟩
    go_wp2
    go_ret
    exact ⟨rfl, R.out, K2.out⟩
set_option maxRecDepth 100000 in
set_option maxHeartbeats 2000000 in
/-- Change of any page that is at hand. -/
theorem change_any (h : PlS w W D P L M n B T np now Q room MF k o fv) (no : Int) (hwf : (Lit.int .i64 no).wf = true) {F : Nat} (e : o no = some F) (g2 : Int) (a2 : Option Addr) (c2 : Nat) (l : List (ByteArray × ByteArray)) (hl : l.length ≤ 1000) (hsz : ∀ i, i < l.length → (l.getD i noCl).1.size ≤ 281474976710656 ∧ (l.getD i noCl).2.size ≤ 281474976710656) (ha : ClsAt W a2 l) (hz : a2 = none ∨ ∃ b off, a2 = some ⟨b, off, none⟩) (hok : pgOk no g2 l = true) (hlt : (fv no).g < g2) :
    Calls Tryz.prog 9 #[.pointer (some ⟨Q, 0, none⟩), .agg #[.int .i64 no, .int .i64 g2, .slice a2 l.length c2], .int .i64 g2] W fun x w' => x = .returned (.int .i64 0) ∧ (∃ v, (∀ r, v.ownBlock = some r → W.heap.size ≤ r) ∧ PlS w w' D P L M n B T np now Q room MF k o (updV fv no (chFrA (fv no) g2 v l))) ∧ (∀ b, b < W.heap.size → b ≠ F → w'.heap[b]? = W.heap[b]?) := by
  have hb1 := (Below.refl W.heap.size W).alloc (Nat.le_refl _) (.cells #[.int .i64 no, .int .i64 g2, .slice a2 l.length c2] 26)
  have hs1 : (W.alloc (.cells #[.int .i64 no, .int .i64 g2, .slice a2 l.length c2] 26)).heap.size = W.heap.size + 1 := by simp
  have hb2 := hb1.alloc hb1.size (.cells #[.int .i64 g2] 3)
  have hx1 := (Pg3.new W 26 no g2 (.slice a2 l.length c2) []).below ((Below.refl _ _).alloc (Nat.le_refl _) (.cells #[.int .i64 g2] 3))
  have gb1 : ((W.alloc (.cells #[.int .i64 no, .int .i64 g2, .slice a2 l.length c2] 26)).alloc (.cells #[.int .i64 g2] 3)).cell? ⟨W.heap.size + 1, 0, none⟩ = some (.int .i64 g2) := Dv.new_cell hs1.symm rfl
  have hFlt := (h.fr no F e).p.lt
  have h1 := h.below hb2
  have p0 := hx1.p0
  clear hs1
  go_enter Tryz.func9, Tryz.ntmps9
  go_upto_region 1 with fail
  generalize (W.alloc (.cells #[.int .i64 no, .int .i64 g2, .slice a2 l.length c2] 26)).alloc (.cells #[.int .i64 g2] 3) = X at *
  have hb3 := (Below.refl X.heap.size X).alloc (Nat.le_refl _) (.cells #[.int .i64 no] 3)
  have h2 := h1.below hb3
  have KC := chg_any h2 no e W.heap.size (W.heap.size + 1) no g2 a2 c2 l hl hsz ((ha.below hb2).below hb3) (hx1.below hb3) hz (Dv.keep_cell hb3 gb1) (by omega) hok rfl hlt
  have hir : IRow (X.alloc (.cells #[.int .i64 no] 3)) (some ⟨X.heap.size, 0, none⟩) [no] := .inr ⟨X.heap.size, 0, rfl, fun i hi => by
    match i, hi with
    | 0, _ => exact Dv.new_cell rfl rfl⟩
  have KE := Lib.hid (each_one Q MF k o 31 #[.pointer (some ⟨W.heap.size, 0, none⟩), .pointer (some ⟨W.heap.size + 1, 0, none⟩)] (some ⟨X.heap.size, 0, none⟩) 1 no F _ hwf (enters_of Tryz.func31 (by kernel_rfl) rfl) h2.q2 h2.mp hir e 0 _ KC)
  have HKP : Hid (∀ b, b < W.heap.size → (X.alloc (.cells #[.int .i64 no] 3)).heap[b]? = W.heap[b]?) := fun b hb => by
    have := hb2.size
    exact (hb3.block b (by omega)).trans (hb2.block b hb)
  have HLE : Hid (W.heap.size ≤ (X.alloc (.cells #[.int .i64 no] 3)).heap.size) := Nat.le_trans hb2.size hb3.size
  clear ha hl hsz h h1 h2 hx1 gb1 hir KC hb1 hb2 hb3 hFlt e hz hok hlt hwf
  go_wp2_with fail
  refine KE.out.mono ?_
  rintro x w5 ⟨rfl, hv, hk⟩
  have HV := Lib.hid hv
  have HK := Lib.hid hk
  clear hv hk KE
  go_wp2
  go_ret
  obtain ⟨v, hv1, hv2⟩ := HV.out
  exact ⟨rfl, ⟨v, fun r hr => Nat.le_trans HLE.out (hv1 r hr), hv2⟩, fun b hb hne => (HK.out b (Nat.lt_of_lt_of_le hb HLE.out) hne).trans (HKP.out b hb)⟩
end
end Go.Proofs.YtpkbopeddhgnlaaGreatDoor
