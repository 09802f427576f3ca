/-
  does OF LAW 16, a Done: the transaction's needs are struck from the list.
-/
import Derived.Test.YtjjbdkgnkieliaaSpNotesB
import Derived.BigQuiet
import Derived.Deep.Cut
import Derived.Deep.CutBlock
import Derived.Deep.CutRange
import Derived.Deep.DeepCutAuto
namespace Go.Proofs.Ytjjbdkgnkieliaa
open Go.RowKit
def dropT (t : Int) (L : List Nd) : List Nd := L.filter fun x => decide (x.1 ≠ t)
theorem dropT_take (t : Int) (L : List Nd) (k : Nat) (h : k < L.length) : dropT t (L.take (k + 1)) = dropT t (L.take k) ++ (if (L.getD k noNd).1 = t then [] else [L.getD k noNd]) := by
  have e : L.take (k + 1) = L.take k ++ [L.getD k noNd] := by
    rw [List.take_succ_eq_append_getElem h]; simp [List.getD_eq_getElem?_getD, h]
  unfold dropT
  rw [e, List.filter_append]
  congr 1
  by_cases h2 : (L.getD k noNd).1 = t
  · rw [if_pos h2, List.filter_cons_of_neg (by simp only [h2]; simp)]; rfl
  · rw [if_neg h2, List.filter_cons_of_pos (by simp only [decide_eq_true_eq]; exact h2)]; rfl
theorem dropT_len (t : Int) (L : List Nd) : (dropT t L).length ≤ L.length := List.length_filter_le _ _
/-- While needs are copied. -/
structure CpS (W w : World) (B S T A n : Nat) (v : Value) (L : List Nd) (o : Int → Option Nat) (b : Book) (B2 P : Nat) (t : Int) (out : Value) (M : List Nd) : Prop where
  sp : SpIn w S T A n o b.1 b.2
  row : NdRow w B v L
  new : NdRow w B2 out M
  p1 : w.cell? ⟨P, 1, none⟩ = some (.int .i64 t)
  bel : Below W.heap.size W w
  size : B2 ≤ w.heap.size
  wB : W.heap.size ≤ B2
  sB : S < B2
  bo : ∀ t x, o t = some x → W.heap.size ≤ x
  pB : P < B2
  vB : ∀ g, v.ownBlock = some g → g < B2
section
variable {W w w' : World} {B S T A n B2 P : Nat} {v out out' : Value} {L M M' : List Nd} {o : Int → Option Nat} {b : Book} {t : Int}
theorem CpS.below (h : CpS W w B S T A n v L o b B2 P t out M) (hb : Below w.heap.size w w') : CpS W w' B S T A n v L o b B2 P t out M :=
  { h with sp := h.sp.below hb, row := World.ownsRow.kept (row := none) h.row ⟨hb.os, hb.tape, hb.output, hb.size, fun i hi _ => hb.block i hi⟩ (by cases v.ownBlock <;> simp),
           new := World.ownsRow.kept (row := none) h.new ⟨hb.os, hb.tape, hb.output, hb.size, fun i hi _ => hb.block i hi⟩ (by cases out.ownBlock <;> simp),
           p1 := keepc3 hb h.p1, bel := h.bel.trans (hb.mono h.bel.size), size := Nat.le_trans h.size hb.size }
/-- A need is appended. -/
theorem CpS.app (h : CpS W w B S T A n v L o b B2 P t out M) (hr : NdRow w' B2 out' M') (hg : w.grownBy w' out.ownBlock) : CpS W w' B S T A n v L o b B2 P t out' M' := by
  have hb : Below B2 w w' := below_grown hg (fun k hk => (h.new.lt k hk).1) h.size
  refine { h with
    sp := h.sp.row h.sB h.new hg
    row := World.ownsRow.kept h.row hg ?_
    new := hr
    p1 := (hb.cell (p := ⟨P, 1, none⟩) h.pB).trans h.p1
    bel := h.bel.trans (hb.mono h.wB)
    size := Nat.le_trans h.size hb.size }
  by_cases e : v.ownBlock = none
  · exact .inl e
  · right
    intro e2
    cases hv : v.ownBlock with
    | none => exact e hv
    | some g =>
      have h1 := h.vB g hv
      rw [hv] at e2
      have h2 := (h.new.lt g e2.symm).1
      omega
end
set_option maxRecDepth 100000 in
set_option maxHeartbeats 8000000 in
theorem does_done {W w : World} {B S T A n : Nat} {v : Value} {L : List Nd} {o : Int → Option Nat} {b : Book} (h : NtS W w B S T A n v L o b) (x : NAct) (hx : NAOk W x) (hk : x.k < 0 ∨ 1 < x.k) (hn : n ≤ 1000000) (hL : L.length ≤ 1000) :
    Calls Try.prog 10 #[.pointer (some ⟨S, 0, none⟩), v, .agg x.cells] w fun e w' => ∃ v' o', e = .returned v' ∧ Hid (NtS W w' B S T A n v' (dropT x.t L) o' (doneB1 x.t b)) := by
  obtain ⟨k, t, ma, ml, mc⟩ := x
  have hwt := hx.wt
  dsimp only at hk hwt ⊢
  simp only [NAct.cells]
  clear hx
  obtain ⟨X, hX⟩ : ∃ X, X = w.alloc (.cells #[.int .i64 k, .int .i64 t, .slice ma ml.length mc] 31) := ⟨_, rfl⟩
  have hbX : Below w.heap.size w X := by rw [hX]; exact (Below.refl _ _).alloc (Nat.le_refl _) _
  have hzX : X.heap.size = w.heap.size + 1 := by rw [hX]; simp only [World.size_alloc]
  have p0 : X.cell? ⟨w.heap.size, 0, none⟩ = some (.int .i64 k) := by rw [hX]; exact new_cell rfl rfl
  have p1 : X.cell? ⟨w.heap.size, 1, none⟩ = some (.int .i64 t) := by rw [hX]; exact new_cell rfl rfl
  have hY : Below X.heap.size X (X.alloc (.cells #[.int .i64 t] 3)) := (Below.refl _ _).alloc (Nat.le_refl _) _
  have s1 := h.below hbX
  have s2 := s1.below hY
  have KD := Lib.hid (done_one s2.sp t hwt (s2.ok.le t) X.heap.size 0 1 (new_cell rfl rfl) hn)
  have hPB : w.heap.size < X.heap.size := by omega
  have hSX : S < X.heap.size := by have := h.sB; have := h.size; omega
  have hWX : W.heap.size ≤ X.heap.size := by have := h.bel.size; omega
  have hvX : ∀ g, v.ownBlock = some g → g < X.heap.size := fun g hg => by have := (h.row.lt g hg).2; omega
  obtain ⟨P, hP⟩ : ∃ P, P = w.heap.size := ⟨_, rfl⟩
  have p1Y := keepc3 hY p1
  have apP := s2.sp.apart p1Y
  have hYz : X.heap.size ≤ (X.alloc (.cells #[.int .i64 t] 3)).heap.size := hY.size
  have HH := Lib.hid h
  have S2 := Lib.hid s2
  have P1Y := Lib.hid p1Y
  have APP := Lib.hid apP
  obtain ⟨a0, c0, hva⟩ := h.row.form
  obtain ⟨m, hm⟩ : ∃ m, m = L.length := ⟨_, rfl⟩
  rw [← hm] at hva hL
  have HM := Lib.hid hm
  rw [← hP] at p0 p1 P1Y APP hPB
  clear p1Y apP s1 s2 hbX hY h hm
  subst hva
  obtain ⟨B2, hB2⟩ : ∃ B2, B2 = X.heap.size := ⟨_, rfl⟩
  rw [← hB2] at hPB hSX hWX hvX hYz
  have BX : Hid (B ≤ X.heap.size) := by have := HH.out.size; show B ≤ _; omega
  have HB2 := Lib.hid hB2
  clear hzX hB2
  obtain ⟨i0, hi, hz0, hz1, hz2⟩ := info_partsNd
  have HI := Lib.hid hi
  have HZ0 := Lib.hid hz0
  have HZ1 := Lib.hid hz1
  have HZ2 := Lib.hid hz2
  clear hi hz0 hz1 hz2
  go_enter Try.func10, Try.ntmps10
  go_upto_region 1 with fail
  rw [← hX, ← hP]
  clear hX hP
  rcases hk with hk | hk
  · have hk1 : k ≤ 1 := by omega
    go_wp2_with fail
    refine KD.out.mono ?_
    rintro z w3 ⟨rfl, hr⟩
    obtain ⟨o3, s3, f3⟩ := hr.out
    have row3 := S2.out.rowFr f3
    have s3' := S2.out.left f3
    have p13 : w3.cell? ⟨P, 1, none⟩ = some (.int .i64 t) := f3.cell (p := ⟨P, 1, none⟩) P1Y.out APP.out.2.1 APP.out.2.2.1 APP.out.2.2.2
    have C0 : Hid (CpS W w3 B S T A n (.slice a0 m c0) L o3 (doneB1 t b) B2 P t (.slice none 0 0) (dropT t (L.take 0))) :=
      { sp := s3, row := row3, new := ⟨rfl, .inl ⟨rfl, rfl⟩⟩, p1 := p13, bel := s3'.1, size := Nat.le_trans hYz f3.size, wB := hWX, sB := hSX, bo := s3'.2, pB := hPB, vB := hvX }
    have HOK := Lib.hid (S2.out.ok.done t)
    clear hr s3 f3 row3 s3' p13 KD P1Y APP S2 p0 p1
    go_wp2
    go_loopw [7, 8] (fun out i w' => ∃ j : Nat, j ≤ m ∧ i = .int .i64 j ∧ Hid (CpS W w' B S T A n (.slice a0 m c0) L o3 (doneB1 t b) B2 P t out (dropT t (L.take j)))) (fun _ i _ => m - (intOf i).toNat)
    case atStart => exact ⟨0, Nat.zero_le _, rfl, C0⟩
    case round =>
      obtain ⟨j, hj, rfl, hc⟩ := hrel
      rename World => wr
      clear C0
      by_cases hlt : j < m
      · have hjl : j < L.length := by have := HM.out; omega
        obtain ⟨g, c, hv, _, _⟩ := hc.out.row.there (by omega)
        injection hv with hv1 hv2 hv3
        subst hv1
        obtain ⟨x0, x1, x2⟩ := hc.out.row.cell j hjl
        have pt := hc.out.p1
        have hstep := dropT_take t L j hjl
        obtain ⟨y, hy⟩ : ∃ y, y = L.getD j noNd := ⟨_, rfl⟩
        rw [← hy] at x0 x1 x2 hstep
        obtain ⟨y0, y1, y2⟩ := y
        dsimp only at x0 x1 x2
        have hlt' : (j : Int) < (m : Int) := by omega
        have X0 := Lib.hid x0
        have X1 := Lib.hid x1
        have X2 := Lib.hid x2
        clear hy hv2 hv3 x1 x2
        by_cases e0 : y0 = t
        · rw [if_pos e0, List.append_nil] at hstep
          subst e0
          have HST := Lib.hid hstep
          clear hstep
          go_upto_region 7 with fail
          go_quiet (fail)
          have hN : Hid (CpS W (wr.drewN nq) B S T A n (.slice (some ⟨g, 0, none⟩) m c0) L o3 (doneB1 y0 b) B2 P y0 u7 (dropT y0 (L.take (j + 1)))) := by
            rw [HST.out]; exact hc.out.below (below_drewN (Below.refl _ _) nq)
          clear hc HST
          go_wp2
          go_round
          case rel => exact ⟨j + 1, by omega, by go_num, hN⟩
          case measure => simp [intOf]; omega
        · rw [if_neg e0] at hstep
          have HST := Lib.hid hstep
          clear hstep
          go_upto_region 7 with fail
          go_quiet (fail)
          have hD : Below wr.heap.size wr (wr.drewN nq) := below_drewN (Below.refl _ _) nq
          have hc2 := Lib.hid (hc.out.below hD)
          have x0 := keepc3 hD X0.out
          have x1 := keepc3 hD X1.out
          have x2 := keepc3 hD X2.out
          clear hc hD X0 X1 X2 pt
          generalize wr.drewN nq = wd at *
          have hnew := hc2.out.new
          have hsz := hc2.out.size
          have hi := HI.out
          have hz0 := HZ0.out
          have hz1 := HZ1.out
          have hz2 := HZ2.out
          have hML : (dropT t (L.take j)).length ≤ 1000 := by
            have h1 := dropT_len t (L.take j)
            rw [List.length_take] at h1; omega
          go_wp2_with (first
            | (at_builtin; refine wpList_append_own _ rfl _ _ 27 rfl B2 33 i0 (.agg #[.int .i64 0, .int .i64 0, .int .i64 0]) 3 24 Try.underlying27 hi hz0 hz1 hz2 rfl (by decide) _ _ _ rfl (World.ownsRow.alloc hnew _) ⟨wd.heap.size, 0, none⟩ 1 1 [.int .i64 y0, .int .i64 y1, .int .i64 y2] rfl rfl ?c1 ?c2 ?c3 ?c4 ?c5 ?_)
            | fail)
          case c1 =>
            intro q u hq
            match q, hq with
            | 0, hq => simp at hq; subst hq; simp [Addr.add, World.cell?_alloc_at]
            | 1, hq => simp at hq; subst hq; simp [Addr.add, World.cell?_alloc_at]
            | 2, hq => simp at hq; subst hq; simp [Addr.add, World.cell?_alloc_at]
          case c2 => intro u hu; simp at hu; rcases hu with rfl | rfl | rfl <;> rfl
          case c3 => unfold maxLen; omega
          case c4 => omega
          case c5 => simp only [World.size_alloc]; omega
          intro v' w4 hown' hgrow _
          have hA := hc2.out.below ((Below.refl wd.heap.size wd).alloc (Nat.le_refl _) (.cells #[.int .i64 y0, .int .i64 y1, .int .i64 y2] 33))
          have hr' : NdRow w4 B2 v' (dropT t (L.take (j + 1))) := by
            rw [HST.out]
            unfold NdRow
            rw [List.length_append, ← flat3_snoc]; exact hown'
          have hN := Lib.hid (hA.app hr' hgrow)
          clear hA hr' hown' hgrow hc2 hnew hsz HST x0 x1 x2 hi hz0 hz1 hz2 hML
          go_wp2
          go_round
          case rel => exact ⟨j + 1, by omega, by go_num, hN⟩
          case measure => simp [intOf]; omega
      · have e : j = L.length := by have := HM.out; omega
        have hc1 := hc.out
        rw [e, List.take_length] at hc1
        have hF : Hid (NtS W wr B S T A n u7 (dropT t L) o3 (doneB1 t b)) :=
          { sp := hc1.sp, ok := HOK.out, row := NdRow.mono hc1.new (by rw [HB2.out]; exact BX.out), bel := hc1.bel, size := Nat.le_trans (by rw [HB2.out]; exact BX.out) hc1.size, sB := HH.out.sB, wB := HH.out.wB, bT := HH.out.bT, bA := HH.out.bA, bo := hc1.bo }
        clear hc hc1
        go_wp2
        go_ret
        exact ⟨_, _, rfl, hF⟩
  · go_wp2_with fail
    refine KD.out.mono ?_
    rintro z w3 ⟨rfl, hr⟩
    obtain ⟨o3, s3, f3⟩ := hr.out
    have row3 := S2.out.rowFr f3
    have s3' := S2.out.left f3
    have p13 : w3.cell? ⟨P, 1, none⟩ = some (.int .i64 t) := f3.cell (p := ⟨P, 1, none⟩) P1Y.out APP.out.2.1 APP.out.2.2.1 APP.out.2.2.2
    have C0 : Hid (CpS W w3 B S T A n (.slice a0 m c0) L o3 (doneB1 t b) B2 P t (.slice none 0 0) (dropT t (L.take 0))) :=
      { sp := s3, row := row3, new := ⟨rfl, .inl ⟨rfl, rfl⟩⟩, p1 := p13, bel := s3'.1, size := Nat.le_trans hYz f3.size, wB := hWX, sB := hSX, bo := s3'.2, pB := hPB, vB := hvX }
    have HOK := Lib.hid (S2.out.ok.done t)
    clear hr s3 f3 row3 s3' p13 KD P1Y APP S2 p0 p1
    go_wp2
    go_loopw [7, 8] (fun out i w' => ∃ j : Nat, j ≤ m ∧ i = .int .i64 j ∧ Hid (CpS W w' B S T A n (.slice a0 m c0) L o3 (doneB1 t b) B2 P t out (dropT t (L.take j)))) (fun _ i _ => m - (intOf i).toNat)
    case atStart => exact ⟨0, Nat.zero_le _, rfl, C0⟩
    case round =>
      obtain ⟨j, hj, rfl, hc⟩ := hrel
      rename World => wr
      clear C0
      by_cases hlt : j < m
      · have hjl : j < L.length := by have := HM.out; omega
        obtain ⟨g, c, hv, _, _⟩ := hc.out.row.there (by omega)
        injection hv with hv1 hv2 hv3
        subst hv1
        obtain ⟨x0, x1, x2⟩ := hc.out.row.cell j hjl
        have pt := hc.out.p1
        have hstep := dropT_take t L j hjl
        obtain ⟨y, hy⟩ : ∃ y, y = L.getD j noNd := ⟨_, rfl⟩
        rw [← hy] at x0 x1 x2 hstep
        obtain ⟨y0, y1, y2⟩ := y
        dsimp only at x0 x1 x2
        have hlt' : (j : Int) < (m : Int) := by omega
        have X0 := Lib.hid x0
        have X1 := Lib.hid x1
        have X2 := Lib.hid x2
        clear hy hv2 hv3 x1 x2
        by_cases e0 : y0 = t
        · rw [if_pos e0, List.append_nil] at hstep
          subst e0
          have HST := Lib.hid hstep
          clear hstep
          go_upto_region 7 with fail
          go_quiet (fail)
          have hN : Hid (CpS W (wr.drewN nq) B S T A n (.slice (some ⟨g, 0, none⟩) m c0) L o3 (doneB1 y0 b) B2 P y0 u7 (dropT y0 (L.take (j + 1)))) := by
            rw [HST.out]; exact hc.out.below (below_drewN (Below.refl _ _) nq)
          clear hc HST
          go_wp2
          go_round
          case rel => exact ⟨j + 1, by omega, by go_num, hN⟩
          case measure => simp [intOf]; omega
        · rw [if_neg e0] at hstep
          have HST := Lib.hid hstep
          clear hstep
          go_upto_region 7 with fail
          go_quiet (fail)
          have hD : Below wr.heap.size wr (wr.drewN nq) := below_drewN (Below.refl _ _) nq
          have hc2 := Lib.hid (hc.out.below hD)
          have x0 := keepc3 hD X0.out
          have x1 := keepc3 hD X1.out
          have x2 := keepc3 hD X2.out
          clear hc hD X0 X1 X2 pt
          generalize wr.drewN nq = wd at *
          have hnew := hc2.out.new
          have hsz := hc2.out.size
          have hi := HI.out
          have hz0 := HZ0.out
          have hz1 := HZ1.out
          have hz2 := HZ2.out
          have hML : (dropT t (L.take j)).length ≤ 1000 := by
            have h1 := dropT_len t (L.take j)
            rw [List.length_take] at h1; omega
          go_wp2_with (first
            | (at_builtin; refine wpList_append_own _ rfl _ _ 27 rfl B2 33 i0 (.agg #[.int .i64 0, .int .i64 0, .int .i64 0]) 3 24 Try.underlying27 hi hz0 hz1 hz2 rfl (by decide) _ _ _ rfl (World.ownsRow.alloc hnew _) ⟨wd.heap.size, 0, none⟩ 1 1 [.int .i64 y0, .int .i64 y1, .int .i64 y2] rfl rfl ?c1 ?c2 ?c3 ?c4 ?c5 ?_)
            | fail)
          case c1 =>
            intro q u hq
            match q, hq with
            | 0, hq => simp at hq; subst hq; simp [Addr.add, World.cell?_alloc_at]
            | 1, hq => simp at hq; subst hq; simp [Addr.add, World.cell?_alloc_at]
            | 2, hq => simp at hq; subst hq; simp [Addr.add, World.cell?_alloc_at]
          case c2 => intro u hu; simp at hu; rcases hu with rfl | rfl | rfl <;> rfl
          case c3 => unfold maxLen; omega
          case c4 => omega
          case c5 => simp only [World.size_alloc]; omega
          intro v' w4 hown' hgrow _
          have hA := hc2.out.below ((Below.refl wd.heap.size wd).alloc (Nat.le_refl _) (.cells #[.int .i64 y0, .int .i64 y1, .int .i64 y2] 33))
          have hr' : NdRow w4 B2 v' (dropT t (L.take (j + 1))) := by
            rw [HST.out]
            unfold NdRow
            rw [List.length_append, ← flat3_snoc]; exact hown'
          have hN := Lib.hid (hA.app hr' hgrow)
          clear hA hr' hown' hgrow hc2 hnew hsz HST x0 x1 x2 hi hz0 hz1 hz2 hML
          go_wp2
          go_round
          case rel => exact ⟨j + 1, by omega, by go_num, hN⟩
          case measure => simp [intOf]; omega
      · have e : j = L.length := by have := HM.out; omega
        have hc1 := hc.out
        rw [e, List.take_length] at hc1
        have hF : Hid (NtS W wr B S T A n u7 (dropT t L) o3 (doneB1 t b)) :=
          { sp := hc1.sp, ok := HOK.out, row := NdRow.mono hc1.new (by rw [HB2.out]; exact BX.out), bel := hc1.bel, size := Nat.le_trans (by rw [HB2.out]; exact BX.out) hc1.size, sB := HH.out.sB, wB := HH.out.wB, bT := HH.out.bT, bA := HH.out.bA, bo := hc1.bo }
        clear hc hc1
        go_wp2
        go_ret
        exact ⟨_, _, rfl, hF⟩
end Go.Proofs.Ytjjbdkgnkieliaa
