/-
  THE CONTRACT OF pool's kept, of any page.
-/
import Derived.Test.YtpkbopeddhgnlaaGreatDoorPlHeld
import Derived.Deep.RegionHeld3
import Derived.Deep.Cut
import Derived.Deep.CutRange
import Derived.Deep.DeepCutAuto
namespace Go.Proofs.YtpkbopeddhgnlaaGreatDoor
open Go.RowKit
theorem set_same {xs : List Value} {j : Nat} {u : Value} (h : xs[j]? = some u) : xs.set j u = xs := by
  apply List.ext_getElem?
  intro k
  rw [List.getElem?_set]
  split
  · rename_i e; subst e
    split
    · exact h.symm
    · rename_i hn; rw [List.getElem?_eq_none (by omega)]
  · rfl
/-- A row's cell is written with what it holds. -/
theorem RowC.same {W : World} {B g c : Nat} {l : List (ByteArray × ByteArray)} (h : RowC W B (.slice (some ⟨g, 0, none⟩) l.length c) l) (j : Nat) (u : Value) (hu : (clsC l)[j]? = some u) : RowC (W.setCell ⟨g, j, none⟩ u) B (.slice (some ⟨g, 0, none⟩) l.length c) l := by
  have := (World.ownsRow.stored h j u).1
  rw [set_same hu] at this
  exact this
theorem kb_alloc {V w : World} {o : Obj} (h : Below V.heap.size V w) : Below V.heap.size V (w.alloc o) := h.alloc h.size o
theorem kb_drew {V w : World} (h : Below V.heap.size V w) : Below V.heap.size V w.drew := h.drew
theorem kb_call {V w w' : World} (h : Below V.heap.size V w) (hb : Below w.heap.size w w') : Below V.heap.size V w' := h.trans (hb.mono h.size)
theorem kf_cell {w w' : World} {p : Addr} {v : Value} (hb : Below w.heap.size w w') (hc : w.cell? p = some v) (hf : w.frozen? p = false) : w'.frozen? p = false := (hb.frozen (p := p) (Dv.block_lt hc)).trans hf
theorem kf_drew {w : World} {p : Addr} (hf : w.frozen? p = false) : w.drew.frozen? p = false := hf
/-- What stays while kept goes round. -/
structure KpI (W wr : World) (no g : Int) (v : Value) (B : Nat) (l : List (ByteArray × ByteArray)) : Prop where
  bw : Below W.heap.size W wr
  pg : Pg3 wr W.heap.size no g v
  rs : Pg3 wr (W.heap.size + 1) 0 0 (.slice none 0 0)
  row : RowC wr B v l
theorem KpI.below {W wr X : World} {no g : Int} {v : Value} {B : Nat} {l : List (ByteArray × ByteArray)} (h : KpI W wr no g v B l) (hb : Below wr.heap.size wr X) : KpI W X no g v B l :=
  ⟨h.bw.trans (hb.mono h.bw.size), h.pg.below hb, h.rs.below hb, h.row.below hb⟩
theorem KpI.put {W wr : World} {no g : Int} {B G c i : Nat} {l : List (ByteArray × ByteArray)} (h : KpI W wr no g (.slice (some ⟨G, 0, none⟩) l.length c) B l) (hB : W.heap.size + 2 ≤ B) (hG : B ≤ G) (hi : i < l.length) :
    KpI W ((wr.setCell ⟨G, i * 2, none⟩ (.string (l.getD i noCl).1)).setCell ⟨G, i * 2 + 1, none⟩ (.string (l.getD i noCl).2)) no g (.slice (some ⟨G, 0, none⟩) l.length c) B l := by
  obtain ⟨g1, g2⟩ := clsC_get l i hi
  have hb := ((Below.refl W.heap.size wr).setCell (p := ⟨G, i * 2, none⟩) (show W.heap.size ≤ G by omega) (.string (l.getD i noCl).1)).setCell (p := ⟨G, i * 2 + 1, none⟩) (show W.heap.size ≤ G by omega) (.string (l.getD i noCl).2)
  have hk : ∀ b, b < G → ((wr.setCell ⟨G, i * 2, none⟩ (.string (l.getD i noCl).1)).setCell ⟨G, i * 2 + 1, none⟩ (.string (l.getD i noCl).2)).heap[b]? = wr.heap[b]? := fun b hb =>
    (Below.heap_setCell _ ⟨G, i * 2 + 1, none⟩ _ b (by show b ≠ G; omega)).trans (Below.heap_setCell wr ⟨G, i * 2, none⟩ _ b (by show b ≠ G; omega))
  exact ⟨h.bw.trans hb, h.pg.of_block (hk _ (by omega)), h.rs.of_block (hk _ (by omega)), (h.row.same _ _ g1).same _ _ g2⟩
/-- All that the drawn region of kept reads. -/
def KpS (W w : World) (no g : Int) (G n c B : Nat) (l : List (ByteArray × ByteArray)) (E j : Nat) (ky vl : ByteArray) : Prop :=
  KpI W w no g (.slice (some ⟨G, 0, none⟩) n c) B l ∧ w.cell? ⟨W.heap.size, 2, none⟩ = some (.slice (some ⟨G, 0, none⟩) n c) ∧ w.cell? ⟨E, 0, none⟩ = some (.string ky) ∧ w.cell? ⟨E, 1, none⟩ = some (.string vl) ∧ w.cell? ⟨G, j * 2, none⟩ = some (.string ky) ∧ w.cell? ⟨G, j * 2 + 1, none⟩ = some (.string vl) ∧ w.frozen? ⟨G, j * 2, none⟩ = false ∧ w.frozen? ⟨G, j * 2 + 1, none⟩ = false
theorem kps_call {W w w' : World} {no g : Int} {G n c B E j : Nat} {l : List (ByteArray × ByteArray)} {ky vl : ByteArray} (h : KpS W w no g G n c B l E j ky vl) (hb : Below w.heap.size w w') : KpS W w' no g G n c B l E j ky vl :=
  ⟨h.1.below hb, keep_cell hb h.2.1, keep_cell hb h.2.2.1, keep_cell hb h.2.2.2.1, keep_cell hb h.2.2.2.2.1, keep_cell hb h.2.2.2.2.2.1, kf_cell hb h.2.2.2.2.1 h.2.2.2.2.2.2.1, kf_cell hb h.2.2.2.2.2.1 h.2.2.2.2.2.2.2⟩
theorem kps_put {W w : World} {no g : Int} {G n c B E j : Nat} {l : List (ByteArray × ByteArray)} {ky vl : ByteArray} (hB : W.heap.size + 2 ≤ B) (hG : B ≤ G) (hE : E ≠ G) (hj : j < l.length) (hn : n = l.length) (hq : (ky, vl) = l.getD j noCl) (h : KpS W w no g G n c B l E j ky vl) :
    KpS W ((w.setCell ⟨G, j * 2, none⟩ (.string ky)).setCell ⟨G, j * 2 + 1, none⟩ (.string vl)) no g G n c B l E j ky vl := by
  obtain ⟨h0, h1, h2, h3, h4, h5, h6, h7⟩ := h
  subst hn
  have hp := h0.put hB hG hj
  rw [← hq] at hp
  have oth : ∀ {b i : Nat} {v : Value}, b ≠ G → w.cell? ⟨b, i, none⟩ = some v → ((w.setCell ⟨G, j * 2, none⟩ (.string ky)).setCell ⟨G, j * 2 + 1, none⟩ (.string vl)).cell? ⟨b, i, none⟩ = some v := fun hne hc => by
    rw [World.cell?_setCell_other _ _ _ _ (fun e => by injection e with e _; exact hne e.symm), World.cell?_setCell_other _ _ _ _ (fun e => by injection e with e _; exact hne e.symm)]; exact hc
  refine ⟨hp, oth (by omega) h1, oth hE h2, oth hE h3, ?_, ?_, ?_, ?_⟩
  · rw [World.cell?_setCell_other _ _ _ _ (fun e => by injection e with _ e; omega)]
    exact World.cell?_setCell_same _ _ _ h4
  · have h5' : (w.setCell ⟨G, j * 2, none⟩ (.string ky)).cell? ⟨G, j * 2 + 1, none⟩ = some (.string vl) := by rw [World.cell?_setCell_other _ _ _ _ (fun e => by injection e with _ e; omega)]; exact h5
    exact World.cell?_setCell_same _ _ _ h5'
  · rw [World.frozen?_setCell, World.frozen?_setCell]; exact h6
  · rw [World.frozen?_setCell, World.frozen?_setCell]; exact h7
set_option maxRecDepth 100000 in
set_option maxHeartbeats 4000000 in
theorem kept_any (no g : Int) (a : Option Addr) (l : List (ByteArray × ByteArray)) (c : Nat) (W : World) (hl : l.length ≤ 1000) (hsz : ∀ i, i < l.length → (l.getD i noCl).1.size ≤ 281474976710656 ∧ (l.getD i noCl).2.size ≤ 281474976710656) (ha : ClsAt W a l) (hz : a = none ∨ ∃ b off, a = some ⟨b, off, none⟩) :
    Calls Tryz.prog 33 #[.agg #[.int .i64 no, .int .i64 g, .slice a l.length c]] W (OwnP W no g l) := by
  have hb1 := (Below.refl W.heap.size W).alloc (Nat.le_refl _) (.cells #[.int .i64 no, .int .i64 g, .slice a l.length c] 26)
  have hb2 := hb1.alloc hb1.size (.cells #[.int .i64 0, .int .i64 0, .slice none 0 0] 26)
  have hP := (Pg3.new W 26 no g (.slice a l.length c) []).below ((Below.refl _ _).alloc (Nat.le_refl _) (.cells #[.int .i64 0, .int .i64 0, .slice none 0 0] 26))
  have hR := Pg3.new (W.alloc (.cells #[.int .i64 no, .int .i64 g, .slice a l.length c] 26)) 26 0 0 (.slice none 0 0) []
  have hs1 : (W.alloc (.cells #[.int .i64 no, .int .i64 g, .slice a l.length c] 26)).heap.size = W.heap.size + 1 := by simp
  rw [hs1] at hR
  have KC := Lib.hid (fun (X : World) (hX : Below W.heap.size W X) => own_any no g a l c X hl (ha.below hX) hz)
  have HL : Hid (l.length ≤ 1000) := hl
  have HSZ := Lib.hid hsz
  obtain ⟨n, hn⟩ : ∃ n, n = l.length := ⟨_, rfl⟩
  have HN := Lib.hid hn
  rw [← hn] at hb1 hb2 hP hR KC hl ⊢
  clear hs1 ha hz hn hsz
  go_enter Tryz.func33, Tryz.ntmps33
  go_upto_region 1 with fail
  generalize (W.alloc (.cells #[.int .i64 no, .int .i64 g, .slice a n c] 26)).alloc (.cells #[.int .i64 0, .int .i64 0, .slice none 0 0] 26) = X at *
  have KC1 : Hid (Calls Tryz.prog 27 #[.agg #[.int .i64 no, .int .i64 g, .slice a n c]] X (OwnP X no g l)) := KC.out X hb2
  obtain ⟨p0, p1, p2, pf⟩ := hP
  have HX := Lib.hid (show W.heap.size + 1 < X.heap.size from hR.lt)
  have HR := Lib.hid hR
  have HB := Lib.hid hb2
  clear KC hR hb1 hb2
  go_wp2_with fail
  refine KC1.out.mono ?_
  rintro x w1 ⟨a', c', rfl, hrow, hbw⟩
  rw [← HN.out]
  have hP1 : Pg3 w1 W.heap.size no g (.slice a n c) := (Pg3.mk p0 p1 p2 pf).below hbw
  have hR1 := HR.out.below hbw
  have HB1 := Lib.hid (HB.out.trans (hbw.mono HB.out.size))
  have hrow2 : RowC (((w1.setCell ⟨W.heap.size, 0, none⟩ (.int .i64 no)).setCell ⟨W.heap.size, 1, none⟩ (.int .i64 g)).setCell ⟨W.heap.size, 2, none⟩ (.slice a' l.length c')) X.heap.size (.slice a' l.length c') l := by
    have hg := ((grown_cell w1 W.heap.size 0 (.int .i64 no)).trans (grown_cell _ W.heap.size 1 (.int .i64 g))).trans (grown_cell _ W.heap.size 2 (.slice a' l.length c'))
    exact World.ownsRow.kept hrow hg (by
      cases ho : (Value.slice a' l.length c').ownBlock with
      | none => exact .inl rfl
      | some k => exact .inr (fun e => by
          injection e with e
          have h1 := (World.ownsRow.lt hrow k ho).1
          have h2 := HX.out
          omega))
  have HP2 := hP1.put no g (.slice a' l.length c')
  have HR2 := hR1.put3_other W.heap.size (.int .i64 no) (.int .i64 g) (.slice a' l.length c') (by omega)
  have HB3 := ((HB1.out.setCell (p := ⟨W.heap.size, 0, none⟩) (Nat.le_refl _) (.int .i64 no)).setCell (p := ⟨W.heap.size, 1, none⟩) (Nat.le_refl _) (.int .i64 g)).setCell (p := ⟨W.heap.size, 2, none⟩) (Nat.le_refl _) (.slice a' l.length c')
  have HK := Lib.hid (KpI.mk HB3 HP2 HR2 hrow2)
  have q2 := HP2.p2
  rw [← HN.out] at HK q2
  obtain ⟨o0, o1, o2, of⟩ := hP1
  clear hrow hbw HR HB KC1 HB1 hrow2 hR1 p0 p1 p2 pf HP2 HR2 HB3
  go_upto_region 2 with fail
  generalize ((w1.setCell ⟨W.heap.size, 0, none⟩ (.int .i64 no)).setCell ⟨W.heap.size, 1, none⟩ (.int .i64 g)).setCell ⟨W.heap.size, 2, none⟩ (.slice a' n c') = Y at *
  clear o0 o1 o2 of
  go_wp2
  go_loopw [10] (fun i wr => ∃ j : Nat, j ≤ n ∧ i = .int .i64 j ∧ Hid (KpI W wr no g (.slice a' n c') X.heap.size l)) (fun i _ => n - (intOf i).toNat)
  case atStart => exact ⟨0, Nat.zero_le _, rfl, HK⟩
  case round =>
    obtain ⟨j, hj, rfl, hk⟩ := hrel
    rename World => wr
    clear HK q2
    by_cases hlt : j < n
    · have hji : j < l.length := by rw [← HN.out]; exact hlt
      have hsz := HSZ.out j hji
      have hform : ∃ G, a' = some ⟨G, 0, none⟩ ∧ X.heap.size ≤ G := by
        rcases hk.out.row.2 with ⟨hv, h0⟩ | ⟨G, c0, cur, hv, hG, _⟩
        · injection hv with _ h1 _; omega
        · injection hv with h1 _ _; exact ⟨G, h1, hG⟩
      obtain ⟨G, rfl, hG⟩ := hform
      have hrow := hk.out.row
      have hrow' : RowC wr X.heap.size (.slice (some ⟨G, 0, none⟩) l.length c') l := by have := hrow; rw [HN.out] at this; exact this
      obtain ⟨g1, g2⟩ := clsC_get l j hji
      have r0 : wr.cell? ⟨G, j * 2, none⟩ = some (.string (l.getD j noCl).1) := (World.ownsRow.cellAt hrow' (j * 2) (by omega)).trans g1
      have r1 : wr.cell? ⟨G, j * 2 + 1, none⟩ = some (.string (l.getD j noCl).2) := (World.ownsRow.cellAt hrow' (j * 2 + 1) (by omega)).trans g2
      have f0 : wr.frozen? ⟨G, j * 2, none⟩ = false := World.ownsRow.frozenAt hrow' _
      have f1 : wr.frozen? ⟨G, j * 2 + 1, none⟩ = false := World.ownsRow.frozenAt hrow' _
      have s2 := hk.out.pg.p2
      obtain ⟨q, hq⟩ : ∃ q, q = l.getD j noCl := ⟨_, rfl⟩
      have HQ := Lib.hid hq
      rw [← hq] at r0 r1 hsz
      obtain ⟨ky, vl⟩ := q
      dsimp only at r0 r1 hsz
      clear hrow hrow' g1 g2 hq
      have hj1 : (j : Int) < (n : Int) := by omega
      have hba := (Below.refl wr.heap.size wr).alloc (Nat.le_refl _) (.cells #[.string ky, .string vl] 39)
      have b0 : (wr.alloc (.cells #[.string ky, .string vl] 39)).cell? ⟨wr.heap.size, 0, none⟩ = some (.string ky) := Dv.new_cell rfl rfl
      have b1 : (wr.alloc (.cells #[.string ky, .string vl] 39)).cell? ⟨wr.heap.size, 1, none⟩ = some (.string vl) := Dv.new_cell rfl rfl
      have v0 := Dv.keep_cell hba r0
      have v1 := Dv.keep_cell hba r1
      have e0 := kf_cell hba r0 f0
      have e1 := kf_cell hba r1 f1
      have t2 := Dv.keep_cell hba s2
      have hGlt : G < wr.heap.size := Dv.block_lt r0
      have hS : KpS W (wr.alloc (.cells #[.string ky, .string vl] 39)) no g G n c' X.heap.size l wr.heap.size j ky vl := ⟨hk.out.below hba, t2, b0, b1, v0, v1, e0, e1⟩
      have hEG : wr.heap.size ≠ G := by omega
      have hXW := HX.out
      have KPUT := Lib.hid (fun (w : World) (h : KpS W w no g G n c' X.heap.size l wr.heap.size j ky vl) => kps_put (by omega) hG hEG hji HN.out HQ.out h)
      go_upto_region 5 with fail
      clear hk hba r0 r1 f0 f1 s2 hGlt hXW hEG
      generalize wr.heap.size = E at *
      generalize wr.alloc (.cells #[.string ky, .string vl] 39) = V at *
      have HS := Lib.hid hS
      clear hS
      go_region_held3 (fun w => KpI W w no g (.slice (some ⟨G, 0, none⟩) n c') X.heap.size l ∧ w.cell? ⟨W.heap.size, 2, none⟩ = some (.slice (some ⟨G, 0, none⟩) n c') ∧ w.cell? ⟨E, 0, none⟩ = some (.string ky) ∧ w.cell? ⟨E, 1, none⟩ = some (.string vl) ∧ w.cell? ⟨G, j * 2, none⟩ = some (.string ky) ∧ w.cell? ⟨G, j * 2 + 1, none⟩ = some (.string vl) ∧ w.frozen? ⟨G, j * 2, none⟩ = false ∧ w.frozen? ⟨G, j * 2 + 1, none⟩ = false)
        ((first | exact kps_call HS.out ((Below.refl _ _).drew) | exact kps_call (‹KpI W _ no g _ _ _ ∧ _›) hb98 | exact KPUT.out _ (‹KpI W _ no g _ _ _ ∧ _›)))
        (first
          | (go_at_call 56; refine (clone_str _ _ hsz.1).mono ?_; rintro x w98 ⟨rfl, hb98⟩)
          | (go_at_call 56; refine (clone_str _ _ hsz.2).mono ?_; rintro x w98 ⟨rfl, hb98⟩))
      all_goals have HF := Lib.hid (‹KpI W _ no g _ _ _ ∧ _›).1
      all_goals clear HS KPUT b0 b1 v0 v1 e0 e1 t2
      all_goals go_wp2
      all_goals go_roundw
      all_goals first
        | exact ⟨j + 1, by omega, by go_num, HF⟩
        | (simp [intOf]; omega)
    · have hjn : (n : Int) ≤ (j : Int) := by omega
      have hpg := hk.out.pg
      have hrs := hk.out.rs
      obtain ⟨p0, p1, p2, pf⟩ := hpg
      obtain ⟨r0, r1, r2, rf⟩ := hrs
      go_wp2
      obtain ⟨Z, hZ, x0, x1, x2, hbZ, hgZ⟩ := set3 (B := W.heap.size) (v0 := .int .i64 no) (v1 := .int .i64 g) (v2 := .slice a' n c') hk.out.bw (by omega) r0 r1 r2
      rw [← hZ]
      have hrz : RowC Z X.heap.size (.slice a' n c') l := World.ownsRow.kept hk.out.row hgZ (by
        cases ho : (Value.slice a' n c').ownBlock with
        | none => exact .inl rfl
        | some k => exact .inr (fun e => by
            injection e with e
            have h1 := (World.ownsRow.lt hk.out.row k ho).1
            have h2 := HX.out
            omega))
      refine bodyPost_ret (v := .agg #[.int .i64 no, .int .i64 g, .slice a' n c']) ?_ rfl ⟨a', c', by rw [← HN.out], by rw [← HN.out]; exact hrz.base (by have := HX.out; omega), hbZ⟩
      simp [results, Tryz.results33, go_sem, x0, x1, x2]
end Go.Proofs.YtpkbopeddhgnlaaGreatDoor
