/-
  PageSets: THE LAW'S WALK.
-/
import Derived.Test.YtgkpbchpjgkblaaDoorPgRightsLaw
import Derived.Test.YtgkpbchpjgkblaaDoorPgRefSet
import Derived.Laws.OwnMore
import Derived.Deep.Cut
import Derived.IntWalk
import Derived.Deep.CutRange
import Derived.Deep.DeepCutAuto
import Derived.Deep.CutBlock
namespace Go.Proofs.YtgkpbchpjgkblaaDoor
open Go.RowKit
theorem sets_tab {W X : World} (ht : Tab W) (hb : Below W.heap.size W X) : Tab X := ht.below hb
set_option maxRecDepth 100000 in
set_option maxHeartbeats 4000000 in
theorem pageSets_early (no g : Int) (a : Option Addr) (l : List (ByteArray × ByteArray)) (c : Nat) (ka : Option Addr) (ks : List ByteArray) (kc : Nat) (va : Option Addr) (vs : List (Bool × ByteArray)) (vc : Nat) (step : Int) (w : World) (hn : l.length ≤ maxLen) (hkn : ks.length ≤ maxLen) (hvn : vs.length ≤ maxLen) (ha : ClsAt w a l) (ht : Tab w) (hbad : clGreat l = true ∨ 20 < ks.length ∨ 20 < vs.length ∨ 1000000 < step ∨ step < -1000000) :
    Calls Tryd.prog 4 #[.agg #[.int .i64 no, .int .i64 g, .slice a l.length c], .slice ka ks.length kc, .slice va vs.length vc, .int .i64 step] w fun e w' => e = .returned (.bool true) ∧ Below w.heap.size w w' := by
  have E0 := Lib.hid (PgE.mk (W := w) (b := none) (lb := []) ha (.inl rfl) ht)
  have KGA := Lib.hid (fun W (h : PgE W a l none []) => great_any no g a l c W hn h.ca)
  have KAW := Lib.hid (fun W (h : PgE W a l none []) => awake11_any W h.tab)
  clear ha ht
  unfold maxLen at hkn hvn
  have hq : clGreat l = true ∨ (clGreat l = false ∧ 20 < (ks.length : Int)) ∨ (clGreat l = false ∧ (ks.length : Int) ≤ 20 ∧ 20 < (vs.length : Int)) ∨ (clGreat l = false ∧ (ks.length : Int) ≤ 20 ∧ (vs.length : Int) ≤ 20 ∧ 1000000 < step) ∨ (clGreat l = false ∧ (ks.length : Int) ≤ 20 ∧ (vs.length : Int) ≤ 20 ∧ step ≤ 1000000 ∧ step < -1000000) := by
    cases h1 : clGreat l
    · rw [h1] at hbad
      by_cases h2 : 20 < ks.length
      · exact .inr (.inl ⟨rfl, by omega⟩)
      · by_cases h3 : 20 < vs.length
        · exact .inr (.inr (.inl ⟨rfl, by omega, by omega⟩))
        · by_cases h4 : 1000000 < step
          · exact .inr (.inr (.inr (.inl ⟨rfl, by omega, by omega, h4⟩)))
          · refine .inr (.inr (.inr (.inr ⟨rfl, by omega, by omega, by omega, ?_⟩)))
            rcases hbad with x | x | x | x | x
            · cases x
            · omega
            · omega
            · omega
            · exact x
    · exact .inl rfl
  clear hbad
  rcases hq with hq | ⟨hq, h2⟩ | ⟨hq, h2, h3⟩ | ⟨hq, h2, h3, h4⟩ | ⟨hq, h2, h3, h4, h5⟩
  all_goals
    rw [hq] at KGA
    clear hq
    go_enter Tryd.func4, Tryd.ntmps4
    go_wp2_with fail
    refine (KGA.out _ E0.out.alloc).mono ?_
    rintro e w1 ⟨rfl, hb1⟩
    have E1 := Lib.hid (PgE.below hb1 E0.out.alloc)
    have B1 := Lib.hid (bw_call hb1 (bw_alloc (Below.refl _ w)))
    clear hb1 KGA
    go_wp2_with fail
    refine (KAW.out _ E1.out).mono ?_
    rintro e w2 ⟨rfl, hb2⟩
    have B2 := bw_call hb2 B1.out
    clear hb2
    go_wp2
    go_ret
    exact ⟨rfl, B2⟩
/-- The page that goes from round to round: as it came in, or a row of the call's own. -/
def SrcC (w wr : World) (a : Option Addr) (l : List (ByteArray × ByteArray)) (c : Nat) : Prop := ClsAt w a l ∨ RowC wr (w.heap.size + 1) (.slice a l.length c) l
structure PsI (w wr : World) (no g : Int) (a : Option Addr) (l : List (ByteArray × ByteArray)) (c : Nat) : Prop where
  p0 : wr.cell? ⟨w.heap.size, 0, none⟩ = some (.int .i64 no)
  p1 : wr.cell? ⟨w.heap.size, 1, none⟩ = some (.int .i64 g)
  p2 : wr.cell? ⟨w.heap.size, 2, none⟩ = some (.slice a l.length c)
  pf : ∀ i, wr.frozen? ⟨w.heap.size, i, none⟩ = false
  bw : Below w.heap.size w wr
  src : SrcC w wr a l c
theorem PsI.below {w W X : World} {no g : Int} {a : Option Addr} {l : List (ByteArray × ByteArray)} {c : Nat} (h : PsI w W no g a l c) (hb : Below W.heap.size W X) : PsI w X no g a l c where
  p0 := keep_cell hb h.p0
  p1 := keep_cell hb h.p1
  p2 := keep_cell hb h.p2
  pf := fun i => (hb.frozen (p := ⟨w.heap.size, i, none⟩) (show w.heap.size < W.heap.size from block_lt h.p0)).trans (h.pf i)
  bw := h.bw.trans (hb.mono h.bw.size)
  src := by
    rcases h.src with h1 | h1
    · exact .inl h1
    · exact .inr (h1.below hb)
theorem PsI.cl {w W : World} {no g : Int} {a : Option Addr} {l : List (ByteArray × ByteArray)} {c : Nat} (h : PsI w W no g a l c) : ClsAt W a l := by
  rcases h.src with h1 | h1
  · exact h1.below h.bw
  · exact h1.clsAt
theorem PsI.set {w W X : World} {no g no' g' : Int} {a a' : Option Addr} {l l' : List (ByteArray × ByteArray)} {c c' : Nat} (h : PsI w W no g a l c) (hr : RowC W (w.heap.size + 1) (.slice a' l'.length c') l') (hX : X = ((W.setCell ⟨w.heap.size, 0, none⟩ (.int .i64 no')).setCell ⟨w.heap.size, 1, none⟩ (.int .i64 g')).setCell ⟨w.heap.size, 2, none⟩ (.slice a' l'.length c')) : PsI w X no' g' a' l' c' := by
  obtain ⟨Y, hY, y0, y1, y2, hbY, hgY⟩ := set3 (v0 := .int .i64 no') (v1 := .int .i64 g') (v2 := .slice a' l'.length c') h.bw (Nat.le_refl _) h.p0 h.p1 h.p2
  obtain rfl : X = Y := hX.trans hY.symm
  exact ⟨y0, y1, y2, fun i => by rw [hY, World.frozen?_setCell, World.frozen?_setCell, World.frozen?_setCell]; exact h.pf i, hbY, .inr (hr.fr hgY (Nat.lt_succ_self _))⟩
/-- append to a row of cells of the call's own, of whatever slice, as a step of a region that draws. -/
theorem step_append_src {ops : Array Oper} {o : Oper} {a : Act} {w : World} {K : Act → World → Prop} {Q : Exit → Act → World → Prop} {E : Prop}
    (hg : o.guard = none) (s x : Operand) (hop : o.op = Op.call { callee := Callee.builtin Builtin.append, args := #[s, x], argTypes := #[22, 22] })
    (B : Nat) (v : Value) (l : List (ByteArray × ByteArray)) (b : Option Addr) (m : List (ByteArray × ByteArray)) (c : Nat) (hs : a.eval s = v) (hown : RowC w B v l) (hx : a.eval x = .slice b m.length c) (hm : ClsAt w b m) (h0 : b = none → c = 0) (h10 : l.length ≤ 1000) (h11 : m.length ≤ 1000) (hB : B ≤ w.heap.size)
    (hK : ∀ v' w', RowC w' B v' (l ++ m) → w.grownBy w' v.ownBlock → K (a.put o.dst v') w') :
    if Region.wanted o (yielded ops a.tmps) = true then Oper.wp Tryd.prog o a w K Q else E := by
  rcases hm with rfl | ⟨bb, off, e, hc⟩
  · cases b with
    | some ad => exact step_append_cls hg s x hop B v l ad [] c hs hown hx (fun j u hj => by cases hj) h10 h11 hB hK
    | none =>
      have hc0 := h0 rfl
      subst hc0
      have hw : Region.wanted o (yielded ops a.tmps) = true := by simp [Region.wanted, hg]
      rw [if_pos hw]
      obtain ⟨i0, hi, hzz⟩ := Option.map_eq_some_iff.1 infoC
      have hr := run_append_owned_none (P := Tryd.prog) (w := w) B 22 o.type 44 i0 2 Tryd.underlying22 hi v l.length (clsC l) hown
      have hx2 : (Value.slice none ([] : List (ByteArray × ByteArray)).length 0) = Value.slice none 0 0 := rfl
      rw [hx2] at hx
      unfold Oper.wp
      simp [execOp, hop, resolve, invoke, builtin, hs, hx, hr, Result.andThen]
      exact hK v w (by rw [List.append_nil]; exact hown) (World.grownBy.refl _ _)
  · subst e
    refine step_append_cls hg s x hop B v l _ m c hs hown hx (fun j u hj => ?_) h10 h11 hB hK
    have hjl : j < m.length * 2 := by
      have := (List.getElem?_eq_some_iff.1 hj).1
      rw [clsC_len] at this; exact this
    have ea : (⟨bb, off, none⟩ : Addr).add j = ⟨bb, off + j, none⟩ := by unfold Addr.add; split <;> simp_all
    rw [ea]
    obtain ⟨i, hi | hi⟩ : ∃ i, j = i * 2 ∨ j = i * 2 + 1 := ⟨j / 2, by omega⟩
    · obtain ⟨k1, k2⟩ := clsC_get m i (by omega)
      rw [hi] at hj ⊢
      rw [k1] at hj
      rw [← hj]; exact (hc i (by omega)).1
    · obtain ⟨k1, k2⟩ := clsC_get m i (by omega)
      rw [hi] at hj ⊢
      rw [k2] at hj
      rw [← hj]; exact (hc i (by omega)).2
theorem cl_drew {W : World} {a : Option Addr} {l : List (ByteArray × ByteArray)} (h : ClsAt W a l) : ClsAt W.drew a l := h
theorem cl_alloc {W : World} {o : Obj} {a : Option Addr} {l : List (ByteArray × ByteArray)} (h : ClsAt W a l) : ClsAt (W.alloc o) a l := h.below ((Below.refl _ _).alloc (Nat.le_refl _) _)
theorem keys_at {w W : World} {a : Option Addr} {ks : List ByteArray} {k : Nat} (h : KeysAt w a ks) (hb : Below w.heap.size w W) (hk : k < ks.length) : ∃ b off, a = some ⟨b, off, none⟩ ∧ W.cell? ⟨b, off + k, none⟩ = some (.string (ks.getD k ByteArray.empty)) := by
  rcases h with rfl | ⟨b, off, e, h⟩
  · simp at hk
  · exact ⟨b, off, e, keep_cell hb (h k hk)⟩
theorem vals_at {w W : World} {a : Option Addr} {vs : List (Bool × ByteArray)} {k : Nat} (h : ValsAt w a vs) (hb : Below w.heap.size w W) (hk : k < vs.length) : ∃ b off, a = some ⟨b, off, none⟩ ∧ W.cell? ⟨b, off + k * 2, none⟩ = some (.bool (vs.getD k (false, ByteArray.empty)).1) ∧ W.cell? ⟨b, off + k * 2 + 1, none⟩ = some (.string (vs.getD k (false, ByteArray.empty)).2) := by
  rcases h with rfl | ⟨b, off, e, h⟩
  · simp at hk
  · exact ⟨b, off, e, keep_cell hb (h k hk).1, keep_cell hb (h k hk).2⟩
theorem lit_row (W : World) : RowC (W.alloc (.cells #[] 44)).drew W.heap.size (.slice (some ⟨W.heap.size, 0, none⟩) 0 0) [] :=
  World.ownsRow.drew (World.ownsRow_lit W #[] 0 (Nat.le_refl _) (Nat.zero_le _) rfl)
theorem lit_keep {W X : World} {p : Addr} {u : Value} (hg : (W.alloc (.cells #[] 44)).drew.grownBy X (Value.slice (some ⟨W.heap.size, 0, none⟩) 0 0).ownBlock) (hc : W.cell? p = some u) : X.cell? p = some u := by
  have hb : Below W.heap.size W X := (((Below.refl _ _).alloc (Nat.le_refl _) _).drew).trans ((Below.refl _ _).grown hg (by show W.heap.size ≤ (W.alloc _).heap.size; rw [World.size_alloc]; exact Nat.le_succ _) (fun k hk => by have hk : some W.heap.size = some k := hk; injection hk with hk; omega))
  exact keep_cell hb hc
theorem lit_below {W X : World} (hg : (W.alloc (.cells #[] 44)).drew.grownBy X (Value.slice (some ⟨W.heap.size, 0, none⟩) 0 0).ownBlock) : Below W.heap.size W X :=
  (((Below.refl _ _).alloc (Nat.le_refl _) _).drew).trans ((Below.refl _ _).grown hg (by show W.heap.size ≤ (W.alloc _).heap.size; rw [World.size_alloc]; exact Nat.le_succ _) (fun k hk => by have hk : some W.heap.size = some k := hk; injection hk with hk; omega))
theorem src_below {wa W X : World} {v : Value} (hb : Below wa.heap.size wa W) (hg : W.grownBy X v.ownBlock) (hown : RowC W wa.heap.size v []) : Below wa.heap.size wa X := by
  refine hb.grown hg hb.size (fun k hk => ?_)
  rcases hown.2 with ⟨hv, _⟩ | ⟨g, cap, cur, hv, hB, _⟩
  · rw [hv] at hk; cases hk
  · rw [hv] at hk
    have hk : some g = some k := hk
    injection hk with hk
    omega
/-- The empty row that the round lays, where the box of the page is laid ahead of it, behind it, or not yet. -/
theorem lit_row2 (W : World) (o : Obj) : RowC ((W.alloc o).alloc (.cells #[] 44)).drew W.heap.size (.slice (some ⟨W.heap.size + 1, 0, none⟩) 0 0) [] := by
  have h := RowC.base (B' := W.heap.size) (lit_row (W.alloc o)) (by rw [World.size_alloc]; exact Nat.le_succ _)
  rwa [World.size_alloc] at h
theorem lit_row3 (W : World) (o : Obj) : RowC ((W.alloc (.cells #[] 44)).alloc o).drew W.heap.size (.slice (some ⟨W.heap.size, 0, none⟩) 0 0) [] := (lit_row W).below ((Below.refl _ _).alloc (Nat.le_refl _) o)
theorem lit_bw (W : World) : Below W.heap.size W (W.alloc (.cells #[] 44)).drew := ((Below.refl _ _).alloc (Nat.le_refl _) _).drew
theorem lit_bw2 (W : World) (o p : Obj) : Below W.heap.size W ((W.alloc o).alloc p).drew := (((Below.refl _ _).alloc (Nat.le_refl _) _).alloc (by rw [World.size_alloc]; exact Nat.le_succ _) _).drew
/-- The box of a page that is laid ahead of an append stays as it is. -/
structure BoxZ (X : World) (b : Nat) : Prop where
  z0 : X.cell? ⟨b, 0, none⟩ = some (.int .i64 0)
  z1 : X.cell? ⟨b, 1, none⟩ = some (.int .i64 0)
  z2 : X.cell? ⟨b, 2, none⟩ = some (.slice none 0 0)
  zf : ∀ i, X.frozen? ⟨b, i, none⟩ = false
theorem BoxZ.grown {W X : World} {row : Option Nat} {b : Nat} (h : BoxZ W b) (hg : W.grownBy X row) (hne : some b ≠ row) : BoxZ X b := by
  have e := hg.block b (block_lt h.z0) hne
  exact ⟨(World.cell?_of_block (a := ⟨b, 0, none⟩) e).trans h.z0, (World.cell?_of_block (a := ⟨b, 1, none⟩) e).trans h.z1, (World.cell?_of_block (a := ⟨b, 2, none⟩) e).trans h.z2, fun i => (World.frozen?_of_block (a := ⟨b, i, none⟩) e).trans (h.zf i)⟩
theorem box_new (W : World) : BoxZ (W.alloc (.cells #[.int .i64 0, .int .i64 0, .slice none 0 0] 24)) W.heap.size := ⟨new_cell rfl rfl, new_cell rfl rfl, new_cell rfl rfl, fun _ => World.frozen?_alloc_at _ _ _ _ rfl⟩
theorem BoxZ.below {W X : World} {b : Nat} (h : BoxZ W b) (hb : Below W.heap.size W X) : BoxZ X b := ⟨keep_cell hb h.z0, keep_cell hb h.z1, keep_cell hb h.z2, fun i => (hb.frozen (p := ⟨b, i, none⟩) (show b < W.heap.size from block_lt h.z0)).trans (h.zf i)⟩
theorem box_call {W X : World} (hb : Below (W.alloc (.cells #[.int .i64 0, .int .i64 0, .slice none 0 0] 24)).drew.heap.size (W.alloc (.cells #[.int .i64 0, .int .i64 0, .slice none 0 0] 24)).drew X) : BoxZ X W.heap.size :=
  BoxZ.below (W := (W.alloc (.cells #[.int .i64 0, .int .i64 0, .slice none 0 0] 24)).drew) ⟨(box_new W).z0, (box_new W).z1, (box_new W).z2, (box_new W).zf⟩ hb
theorem box2 (W X : World) (hg : ((W.alloc (.cells #[.int .i64 0, .int .i64 0, .slice none 0 0] 24)).alloc (.cells #[] 44)).drew.grownBy X (Value.slice (some ⟨W.heap.size + 1, 0, none⟩) 0 0).ownBlock) : BoxZ X W.heap.size :=
  ((box_new W).below (((Below.refl _ _).alloc (Nat.le_refl _) (.cells #[] 44)).drew)).grown hg (fun e => by have e : some W.heap.size = some (W.heap.size + 1) := e; injection e with e; omega)
theorem box3 (W X : World) (hg : ((W.alloc (.cells #[] 44)).alloc (.cells #[.int .i64 0, .int .i64 0, .slice none 0 0] 24)).drew.grownBy X (Value.slice (some ⟨W.heap.size, 0, none⟩) 0 0).ownBlock) : BoxZ X (W.heap.size + 1) := by
  have h := (((box_new (W.alloc (.cells #[] 44))).below (Below.refl _ _).drew)).grown hg (fun e => by have e : some (W.alloc (.cells #[] 44)).heap.size = some W.heap.size := e; injection e with e; rw [World.size_alloc] at e; omega)
  rwa [World.size_alloc] at h
theorem set_keep {W : World} {p q : Addr} {u v : Value} (hne : p.block ≠ q.block) (h : W.cell? q = some u) : (W.setCell p v).cell? q = some u := by
  rw [World.cell?_setCell_other _ _ _ _ (fun e => hne (by rw [e]))]; exact h
/-- A page of the round's own, in a box of its own. -/
structure WasI (wa wx : World) (B : Nat) (no g : Int) (av : Option Addr) (cv : Nat) (l : List (ByteArray × ByteArray)) : Prop where
  b0 : wx.cell? ⟨B, 0, none⟩ = some (.int .i64 no)
  b1 : wx.cell? ⟨B, 1, none⟩ = some (.int .i64 g)
  b2 : wx.cell? ⟨B, 2, none⟩ = some (.slice av l.length cv)
  cl : ClsAt wx av l
  bw : Below wa.heap.size wa wx
theorem WasI.below {wa wx X : World} {B : Nat} {no g : Int} {av : Option Addr} {cv : Nat} {l : List (ByteArray × ByteArray)} (h : WasI wa wx B no g av cv l) (hb : Below wx.heap.size wx X) : WasI wa X B no g av cv l :=
  ⟨keep_cell hb h.b0, keep_cell hb h.b1, keep_cell hb h.b2, h.cl.below hb, h.bw.trans (hb.mono h.bw.size)⟩
theorem WasI.mk3 {wa Y : World} {B : Nat} {u0 u1 u2 : Value} {no g : Int} {av : Option Addr} {cv : Nat} {l : List (ByteArray × ByteArray)} (hb : Below wa.heap.size wa Y) (hB : wa.heap.size ≤ B) (c0 : Y.cell? ⟨B, 0, none⟩ = some u0) (c1 : Y.cell? ⟨B, 1, none⟩ = some u1) (c2 : Y.cell? ⟨B, 2, none⟩ = some u2) (hcl : ClsAt ((((Y.setCell ⟨B, 0, none⟩ (.int .i64 no)).setCell ⟨B, 1, none⟩ (.int .i64 g)).setCell ⟨B, 2, none⟩ (.slice av l.length cv))) av l) : WasI wa ((((Y.setCell ⟨B, 0, none⟩ (.int .i64 no)).setCell ⟨B, 1, none⟩ (.int .i64 g)).setCell ⟨B, 2, none⟩ (.slice av l.length cv))) B no g av cv l := by
  obtain ⟨X, hX, y0, y1, y2, hbX, _⟩ := set3 (v0 := .int .i64 no) (v1 := .int .i64 g) (v2 := .slice av l.length cv) hb hB c0 c1 c2
  rw [← hX] at hcl ⊢
  exact ⟨y0, y1, y2, hcl, hbX⟩
theorem box_ne {Y : World} {B : Nat} (z : BoxZ Y B) {p : Addr} {s : ByteArray} (h : Y.cell? p = some (.string s)) : p ≠ ⟨B, 0, none⟩ ∧ p ≠ ⟨B, 1, none⟩ ∧ p ≠ ⟨B, 2, none⟩ := by
  refine ⟨fun e => ?_, fun e => ?_, fun e => ?_⟩
  · rw [e, z.z0] at h; cases h
  · rw [e, z.z1] at h; cases h
  · rw [e, z.z2] at h; cases h
theorem box_set {Y : World} {B : Nat} {v0 v1 v2 : Value} (z : BoxZ Y B) {p : Addr} {s : ByteArray} (h : Y.cell? p = some (.string s)) : (((Y.setCell ⟨B, 0, none⟩ v0).setCell ⟨B, 1, none⟩ v1).setCell ⟨B, 2, none⟩ v2).cell? p = some (.string s) := by
  obtain ⟨n0, n1, n2⟩ := box_ne z h
  rw [World.cell?_setCell_other _ _ _ _ (fun e => n2 e.symm), World.cell?_setCell_other _ _ _ _ (fun e => n1 e.symm), World.cell?_setCell_other _ _ _ _ (fun e => n0 e.symm)]
  exact h
theorem cls_set {Y : World} {B : Nat} {v0 v1 v2 : Value} {a : Option Addr} {l : List (ByteArray × ByteArray)} (z : BoxZ Y B) (h : ClsAt Y a l) : ClsAt (((Y.setCell ⟨B, 0, none⟩ v0).setCell ⟨B, 1, none⟩ v1).setCell ⟨B, 2, none⟩ v2) a l := by
  rcases h with rfl | ⟨b, off, e, h⟩
  · exact .inl rfl
  · exact .inr ⟨b, off, e, fun i hi => ⟨box_set z (h i hi).1, box_set z (h i hi).2⟩⟩
/-- A box that was laid zero, and written. -/
theorem WasI.ofSet {wa Y : World} {B : Nat} {no g : Int} {av : Option Addr} {cv : Nat} {l : List (ByteArray × ByteArray)} (hb : Below wa.heap.size wa Y) (hB : wa.heap.size ≤ B) (z : BoxZ Y B) (hcl : ClsAt Y av l) :
    WasI wa ((((Y.setCell ⟨B, 0, none⟩ (.int .i64 no)).setCell ⟨B, 1, none⟩ (.int .i64 g)).setCell ⟨B, 2, none⟩ (.slice av l.length cv))) B no g av cv l :=
  WasI.mk3 hb hB z.z0 z.z1 z.z2 (cls_set z hcl)
theorem WasI.ofNew {wa Y : World} {no g : Int} {av : Option Addr} {cv : Nat} {l : List (ByteArray × ByteArray)} (hb : Below wa.heap.size wa Y) (hcl : ClsAt Y av l) :
    WasI wa (Y.alloc (.cells #[.int .i64 no, .int .i64 g, .slice av l.length cv] 24)) Y.heap.size no g av cv l :=
  ⟨new_cell rfl rfl, new_cell rfl rfl, new_cell rfl rfl, cl_alloc hcl, hb.alloc hb.size _⟩
/-- What an answer of Set is, by its error. -/
def AnsIs (no g2 : Int) (l : List (ByteArray × ByteArray)) (key : ByteArray) (h : Bool) (s : ByteArray) (E : Int) (base : Nat) (W : World) (n' g' : Int) (a' : Option Addr) (c' : Nat) (l' : List (ByteArray × ByteArray)) : Prop :=
  (E ≠ 0 ∧ n' = 0 ∧ g' = 0 ∧ l' = []) ∨ (E = 0 ∧ n' = no ∧ g' = g2 ∧ l' = ptL l key h s ∧ RowC W base (.slice a' l'.length c') l')
def SetOne (no g2 : Int) (l : List (ByteArray × ByteArray)) (key : ByteArray) (h : Bool) (s : ByteArray) (E : Int) (w : World) (e : Ending) (w' : World) : Prop :=
  ∃ (n' g' : Int) (a' : Option Addr) (c' : Nat) (l' : List (ByteArray × ByteArray)), e = .returned (.tuple #[.agg #[.int .i64 n', .int .i64 g', .slice a' l'.length c'], .int .i64 E]) ∧ ClsAt w' a' l' ∧ Hid (AnsIs no g2 l key h s E w.heap.size w' n' g' a' c' l') ∧ Below w.heap.size w w'
theorem setAns_one {no g g2 : Int} {l : List (ByteArray × ByteArray)} {key : ByteArray} {h : Bool} {s : ByteArray} {w : World} {e : Ending} {w' : World} (hs : SetAns no g l key h s g2 w e w') : SetOne no g2 l key h s (setE no g l key h s g2) w e w' := by
  rcases hs with ⟨he, rfl, hb⟩ | ⟨he, a, c, rfl, hr, hb⟩
  · exact ⟨0, 0, none, 0, [], rfl, .inl rfl, .inl ⟨he, rfl, rfl, rfl⟩, hb⟩
  · obtain ⟨a2, c2, e2, hcl, _⟩ := hr.cls
    injection e2 with e2 _ e3
    subst e2 e3
    exact ⟨no, g2, a, c, _, by rw [he], hcl, .inr ⟨he, rfl, rfl, rfl, hr⟩, hb⟩
/-- An answer of Set in a box of the round's own. -/
def QIs (wx wy : World) (Q : Nat) (no g2 : Int) (l : List (ByteArray × ByteArray)) (key : ByteArray) (h : Bool) (s : ByteArray) (E : Int) : Prop :=
  ∃ (n' g' : Int) (a' : Option Addr) (c' : Nat) (l' : List (ByteArray × ByteArray)), WasI wx wy Q n' g' a' c' l' ∧ AnsIs no g2 l key h s E wx.heap.size wy n' g' a' c' l'
theorem AnsIs.below {no g2 : Int} {l : List (ByteArray × ByteArray)} {key : ByteArray} {h : Bool} {s : ByteArray} {E : Int} {base : Nat} {W X : World} {n' g' : Int} {a' : Option Addr} {c' : Nat} {l' : List (ByteArray × ByteArray)} (hA : AnsIs no g2 l key h s E base W n' g' a' c' l') (hb : Below W.heap.size W X) : AnsIs no g2 l key h s E base X n' g' a' c' l' := by
  rcases hA with h1 | ⟨h1, h2, h3, h4, hr⟩
  · exact .inl h1
  · exact .inr ⟨h1, h2, h3, h4, hr.below hb⟩
theorem qis_new {wx w9 : World} {no g2 : Int} {l : List (ByteArray × ByteArray)} {key : ByteArray} {h : Bool} {s : ByteArray} {E : Int} {n' g' : Int} {a' : Option Addr} {c' : Nat} {l' : List (ByteArray × ByteArray)} (hcl : ClsAt w9 a' l') (hA : AnsIs no g2 l key h s E wx.heap.size w9 n' g' a' c' l') (hb : Below wx.heap.size wx w9) :
    QIs wx (w9.alloc (.cells #[.int .i64 n', .int .i64 g', .slice a' l'.length c'] 24)) w9.heap.size no g2 l key h s E :=
  ⟨n', g', a', c', l', .ofNew hb hcl, hA.below ((Below.refl _ _).alloc (Nat.le_refl _) _)⟩
theorem qis_set {wx w9 : World} {no g2 : Int} {l : List (ByteArray × ByteArray)} {key : ByteArray} {h : Bool} {s : ByteArray} {E : Int} {n' g' : Int} {a' : Option Addr} {c' : Nat} {l' : List (ByteArray × ByteArray)} (hcl : ClsAt w9 a' l') (hA : AnsIs no g2 l key h s E (wx.alloc (.cells #[.int .i64 0, .int .i64 0, .slice none 0 0] 24)).heap.size w9 n' g' a' c' l') (hb : Below (wx.alloc (.cells #[.int .i64 0, .int .i64 0, .slice none 0 0] 24)).drew.heap.size (wx.alloc (.cells #[.int .i64 0, .int .i64 0, .slice none 0 0] 24)).drew w9) :
    QIs wx (((w9.setCell ⟨wx.heap.size, 0, none⟩ (.int .i64 n')).setCell ⟨wx.heap.size, 1, none⟩ (.int .i64 g')).setCell ⟨wx.heap.size, 2, none⟩ (.slice a' l'.length c')) wx.heap.size no g2 l key h s E := by
  have hb9 : Below wx.heap.size wx w9 := (((Below.refl _ _).alloc (Nat.le_refl _) (.cells #[.int .i64 0, .int .i64 0, .slice none 0 0] 24)).drew).trans (hb.mono (show wx.heap.size ≤ (wx.alloc _).heap.size by rw [World.size_alloc]; exact Nat.le_succ _))
  have z : BoxZ w9 wx.heap.size := box_call hb
  refine ⟨n', g', a', c', l', .ofSet hb9 (Nat.le_refl _) z hcl, ?_⟩
  rcases hA with h1 | ⟨h1, h2, h3, h4, hr⟩
  · exact .inl h1
  · refine .inr ⟨h1, h2, h3, h4, ?_⟩
    obtain ⟨X, hX, _, _, _, _, hgX⟩ := set3 (v0 := .int .i64 n') (v1 := .int .i64 g') (v2 := .slice a' l'.length c') hb9 (Nat.le_refl _) z.z0 z.z1 z.z2
    rw [← hX]
    exact (hr.fr hgX (by rw [World.size_alloc]; exact Nat.lt_succ_self _)).base (by rw [World.size_alloc]; exact Nat.le_succ _)
theorem QIs.below {wx W X : World} {Q : Nat} {no g2 : Int} {l : List (ByteArray × ByteArray)} {key : ByteArray} {h : Bool} {s : ByteArray} {E : Int} (hq : QIs wx W Q no g2 l key h s E) (hb : Below W.heap.size W X) : QIs wx X Q no g2 l key h s E := by
  obtain ⟨n', g', a', c', l', hw, hA⟩ := hq
  exact ⟨n', g', a', c', l', hw.below hb, hA.below hb⟩
theorem QIs.bw {wx W : World} {Q : Nat} {no g2 : Int} {l : List (ByteArray × ByteArray)} {key : ByteArray} {h : Bool} {s : ByteArray} {E : Int} (hq : QIs wx W Q no g2 l key h s E) : Below wx.heap.size wx W := by
  obtain ⟨_, _, _, _, _, hw, _⟩ := hq
  exact hw.bw
theorem ans_same {no g2 : Int} {l : List (ByteArray × ByteArray)} {key : ByteArray} {h : Bool} {s : ByteArray} {E : Int} {b1 b2 : Nat} {W X : World} {n1 g1 n2 g3 : Int} {a1 a2 : Option Addr} {c1 c2 : Nat} {l1 l2 : List (ByteArray × ByteArray)} (h1 : AnsIs no g2 l key h s E b1 W n1 g1 a1 c1 l1) (h2 : AnsIs no g2 l key h s E b2 X n2 g3 a2 c2 l2) : n2 = n1 ∧ g3 = g1 ∧ l2 = l1 := by
  rcases h1 with ⟨e1, q1, q2, q3⟩ | ⟨e1, q1, q2, q3, _⟩
  · rcases h2 with ⟨_, r1, r2, r3⟩ | ⟨e2, _⟩
    · exact ⟨r1.trans q1.symm, r2.trans q2.symm, r3.trans q3.symm⟩
    · exact absurd e2 e1
  · rcases h2 with ⟨e2, _⟩ | ⟨_, r1, r2, r3, _⟩
    · exact absurd e1 e2
    · exact ⟨r1.trans q1.symm, r2.trans q2.symm, r3.trans q3.symm⟩
theorem ans_len {no g2 : Int} {l : List (ByteArray × ByteArray)} {key : ByteArray} {h : Bool} {s : ByteArray} {E : Int} {b1 : Nat} {W : World} {n1 g1 : Int} {a1 : Option Addr} {c1 : Nat} {l1 : List (ByteArray × ByteArray)} (h1 : AnsIs no g2 l key h s E b1 W n1 g1 a1 c1 l1) (hE : E = 0 → (ptL l key h s).length ≤ 8) : l1.length ≤ 20 := by
  rcases h1 with ⟨e1, q1, q2, q3⟩ | ⟨e1, q1, q2, q3, _⟩
  · rw [q3]; simp
  · rw [q3]; have := hE e1; omega
theorem ans_zero {no g2 : Int} {l : List (ByteArray × ByteArray)} {key : ByteArray} {h : Bool} {s : ByteArray} {b1 : Nat} {W : World} {n1 g1 : Int} {a1 : Option Addr} {c1 : Nat} {l1 : List (ByteArray × ByteArray)} (h1 : AnsIs no g2 l key h s 0 b1 W n1 g1 a1 c1 l1) : n1 = no ∧ RowC W b1 (.slice a1 l1.length c1) l1 ∧ l1.length ≤ c1 ∧ (a1 = none → c1 = 0) := by
  rcases h1 with ⟨e1, _⟩ | ⟨_, q1, _, _, hr⟩
  · exact absurd rfl e1
  · obtain ⟨a2, c2, e2, _, hz, hc⟩ := hr.cls
    injection e2 with e2 _ e3
    subst e2 e3
    exact ⟨q1, hr, hc, hz⟩
set_option maxRecDepth 100000 in
set_option maxHeartbeats 4000000 in
theorem pageSets_main (no g : Int) (a : Option Addr) (l : List (ByteArray × ByteArray)) (c : Nat) (ka : Option Addr) (ks : List ByteArray) (kc : Nat) (va : Option Addr) (vs : List (Bool × ByteArray)) (vc : Nat) (step : Int) (w : World) (hn : l.length ≤ maxLen) (hlc : l.length ≤ c) (hz : a = none → c = 0) (ha : ClsAt w a l) (hka : KeysAt w ka ks) (hva : ValsAt w va vs) (ht : Tab w) (hG : clGreat l = false) (hk20 : ks.length ≤ 20) (hv20 : vs.length ≤ 20) (hs1 : step ≤ 1000000) (hs2 : -1000000 ≤ step) :
    Calls Tryd.prog 4 #[.agg #[.int .i64 no, .int .i64 g, .slice a l.length c], .slice ka ks.length kc, .slice va vs.length vc, .int .i64 step] w fun e w' => e = .returned (.bool true) ∧ Below w.heap.size w w' := by
  have hl20 := (clGreat_no hG).1
  have E0 := Lib.hid (PgE.mk (W := w) (b := none) (lb := []) ha (.inl rfl) ht)
  have KGA := Lib.hid (fun W (h : PgE W a l none []) => great_any no g a l c W hn h.ca)
  have KAW := Lib.hid (fun W (h : PgE W a l none []) => awake11_any W h.tab)
  have KSET := Lib.hid (fun a' l' c' key h s g' g2 W (hn : l'.length ≤ maxLen) (hlc : l'.length ≤ c') (hz : a' = none → c' = 0) (hh : ClsAt W a' l') => set_any no g' a' l' c' key h s g2 W hn hlc hz hh)
  have KREF := Lib.hid (fun a' l' c' key h s g' g2 W (hn : l'.length ≤ 1000000) (hh : ClsAt W a' l') => refSet_any no g' a' l' c' key h s g2 W hn hh)
  have KSM := Lib.hid (fun n1 g1 a l c n2 g2 a2 r c2 W (hr : r.length ≤ 1000000) (ha : ClsAt W a l) (ha2 : ClsAt W a2 r) => refSame_any n1 g1 a l c n2 g2 a2 r c2 W hr ha ha2)
  have I0 : Hid (PsI w (w.alloc (.cells #[.int .i64 no, .int .i64 g, .slice a l.length c] 24)) no g a l c) := ⟨new_cell rfl rfl, new_cell rfl rfl, new_cell rfl rfl, fun _ => World.frozen?_alloc_at _ _ _ _ rfl, (Below.refl _ _).alloc (Nat.le_refl _) _, .inl ha⟩
  have HKA := Lib.hid hka
  have HVA := Lib.hid hva
  have hki : (ks.length : Int) ≤ 20 := by omega
  have hvi : (vs.length : Int) ≤ 20 := by omega
  rw [hG] at KGA
  clear ha ht hka hva hG
  go_enter Tryd.func4, Tryd.ntmps4
  go_wp2_with fail
  refine (KGA.out _ E0.out.alloc).mono ?_
  rintro e w1 ⟨rfl, hb1⟩
  have E1 := Lib.hid (PgE.below hb1 E0.out.alloc)
  have I1 := Lib.hid (I0.out.below hb1)
  clear hb1 KGA E0 I0
  go_wp2_with fail
  refine (KAW.out _ E1.out).mono ?_
  rintro e w2 ⟨rfl, hb2⟩
  have I2 := Lib.hid (I1.out.below hb2)
  clear hb2 E1 KAW I1
  go_wp2
  go_loopw [9] (fun i wr => ∃ (k : Nat) (g1 : Int) (a1 : Option Addr) (l1 : List (ByteArray × ByteArray)) (c1 : Nat), k ≤ ks.length ∧ i = .int .i64 k ∧ l1.length ≤ 20 ∧ l1.length ≤ c1 ∧ Hid (a1 = none → c1 = 0) ∧ Hid (PsI w wr no g1 a1 l1 c1)) (fun i _ => ks.length - (intOf i).toNat)
  case atStart => exact ⟨0, g, a, l, c, Nat.zero_le _, rfl, hl20, hlc, hz, I2⟩
  case round =>
    obtain ⟨k, g1, a1, l1, c1, hk, rfl, h20, hc1, hz1, HI⟩ := hrel
    rename World => wa
    clear I2 hz hn hlc
    by_cases hlt : k < ks.length
    · by_cases hlv : k < vs.length
      · have hk0 : (0 : Int) ≤ (k : Int) := by omega
        have hk1 : (k : Int) < (ks.length : Int) := by omega
        have hk2 : (k : Int) < (vs.length : Int) := by omega
        obtain ⟨kb, koff, rfl, x1⟩ := keys_at HKA.out HI.out.bw hlt
        obtain ⟨vb, voff, rfl, y1, y2⟩ := vals_at HVA.out HI.out.bw hlv
        generalize ks.getD k ByteArray.empty = key at *
        generalize (vs.getD k (false, ByteArray.empty)).1 = h at *
        generalize (vs.getD k (false, ByteArray.empty)).2 = s at *
        have p0 := HI.out.p0
        have p1 := HI.out.p1
        have p2 := HI.out.p2
        have hq : (100 < (key.size : Int)) ∨ ((key.size : Int) ≤ 100 ∧ 100 < (s.size : Int)) ∨ ((key.size : Int) ≤ 100 ∧ (s.size : Int) ≤ 100 ∧ 2305843009213693952 < g1) ∨ ((key.size : Int) ≤ 100 ∧ (s.size : Int) ≤ 100 ∧ g1 ≤ 2305843009213693952 ∧ g1 < -2305843009213693952) ∨ ((key.size : Int) ≤ 100 ∧ (s.size : Int) ≤ 100 ∧ g1 ≤ 2305843009213693952 ∧ -2305843009213693952 ≤ g1) := by omega
        rcases hq with q1 | ⟨q1, q2⟩ | ⟨q1, q2, q3⟩ | ⟨q1, q2, q3, q4⟩ | ⟨q1, q2, q3, q4⟩
        · go_wp2
          go_ret
          exact ⟨rfl, HI.out.bw⟩
        · go_wp2
          go_ret
          exact ⟨rfl, HI.out.bw⟩
        · go_wp2
          go_ret
          exact ⟨rfl, HI.out.bw⟩
        · go_wp2
          go_ret
          exact ⟨rfl, HI.out.bw⟩
        · have CL0 := Lib.hid HI.out.cl
          have hwl : w.heap.size < wa.heap.size := block_lt p0
          have L1 := Lib.hid (lit_row wa)
          have L2 := Lib.hid (lit_row2 wa (.cells #[.int .i64 0, .int .i64 0, .slice none 0 0] 24))
          have L3 := Lib.hid (lit_row3 wa (.cells #[.int .i64 0, .int .i64 0, .slice none 0 0] 24))
          have D1 := Lib.hid (lit_bw wa)
          have D2 := Lib.hid (lit_bw2 wa (.cells #[.int .i64 0, .int .i64 0, .slice none 0 0] 24) (.cells #[] 44))
          have D3 := Lib.hid (lit_bw2 wa (.cells #[] 44) (.cells #[.int .i64 0, .int .i64 0, .slice none 0 0] 24))
          have CL1 := Lib.hid (CL0.out.below D1.out)
          have CL2 := Lib.hid (CL0.out.below D2.out)
          have CL3 := Lib.hid (CL0.out.below D3.out)
          have X1 := Lib.hid x1
          have Y1 := Lib.hid y1
          have Y2 := Lib.hid y2
          have P0 := Lib.hid p0
          have P1 := Lib.hid p1
          have P2 := Lib.hid p2
          go_upto_region 8 with fail
          clear x1 y1 y2
          go_cut [10] from 40 to 137 (fun v10 wx => ∃ (B : Nat) (av : Option Addr) (cv : Nat), v10 = .pointer (some ⟨B, 0, none⟩) ∧ Hid (WasI wa wx B no g1 av cv l1))
          case first =>
            go_region_held3 (fun w' => w'.cell? ⟨w.heap.size, 0, none⟩ = some (.int .i64 no) ∧ w'.cell? ⟨w.heap.size, 1, none⟩ = some (.int .i64 g1) ∧ w'.cell? ⟨w.heap.size, 2, none⟩ = some (.slice a1 l1.length c1))
              ((refine ⟨?_, ?_, ?_⟩ <;> (repeat (first | with_reducible assumption | with_reducible refine set_keep (by have := hwl; simp; omega) ?_ | with_reducible refine keep_alloc ?_ | with_reducible refine keep_drew ?_ | with_reducible refine keep_cell (by assumption) ?_))))
              (first
                | ((refine step_append_src (by rfl) _ _ (by rfl) wa.heap.size _ [] a1 l1 c1 (by rfl) L1.out (by rfl) CL1.out hz1.out (by simp) (by omega) D1.out.size ?_); intro v8 w8 hr8 hg8; have hb8 := src_below D1.out hg8 L1.out; clear hg8; obtain ⟨aw, cw, rfl, hcl8, hzw, hcw⟩ := hr8.cls; simp only [List.nil_append] at hr8 hcl8 hcw ⊢)
                | ((refine step_append_src (by rfl) _ _ (by rfl) wa.heap.size _ [] a1 l1 c1 (by rfl) L2.out (by rfl) CL2.out hz1.out (by simp) (by omega) D2.out.size ?_); intro v8 w8 hr8 hg8; have hb8 := src_below D2.out hg8 L2.out; obtain ⟨z0, z1, z2, zf⟩ := box2 _ _ hg8; clear hg8; obtain ⟨aw, cw, rfl, hcl8, hzw, hcw⟩ := hr8.cls; simp only [List.nil_append] at hr8 hcl8 hcw ⊢)
                | ((refine step_append_src (by rfl) _ _ (by rfl) wa.heap.size _ [] a1 l1 c1 (by rfl) L3.out (by rfl) CL3.out hz1.out (by simp) (by omega) D3.out.size ?_); intro v8 w8 hr8 hg8; have hb8 := src_below D3.out hg8 L3.out; obtain ⟨z0, z1, z2, zf⟩ := box3 _ _ hg8; clear hg8; obtain ⟨aw, cw, rfl, hcl8, hzw, hcw⟩ := hr8.cls; simp only [List.nil_append] at hr8 hcl8 hcw ⊢))
            all_goals go_wp2_with fail
            all_goals go_meet
            all_goals first
              | exact ⟨_, aw, cw, rfl, WasI.ofNew hb8 hcl8⟩
              | exact ⟨_, aw, cw, rfl, WasI.ofSet hb8 (by omega) ⟨z0, z1, z2, zf⟩ hcl8⟩
          case rest =>
            obtain ⟨B, av, cv, rfl, HW⟩ := hcut
            rename World => wx
            have x1 := keep_cell HW.out.bw X1.out
            have y1 := keep_cell HW.out.bw Y1.out
            have y2 := keep_cell HW.out.bw Y2.out
            have p0 := keep_cell HW.out.bw P0.out
            have p1 := keep_cell HW.out.bw P1.out
            have p2 := keep_cell HW.out.bw P2.out
            have CX := Lib.hid (CL0.out.below HW.out.bw)
            have HWb := Lib.hid HW.out.bw
            have HWb0 := Lib.hid p0
            have hwx : w.heap.size < wx.heap.size := block_lt p0
            have hkx : kb < wx.heap.size := block_lt x1
            have hvx : vb < wx.heap.size := block_lt y1
            have K9 := Lib.hid (fun W (hh : ClsAt W a1 l1) => (KSET.out a1 l1 c1 key h s g1 (g1 + step) W (by unfold maxLen; omega) hc1 hz1.out hh).mono (fun _ _ hs => setAns_one hs))
            have K10 := Lib.hid (fun W (hh : ClsAt W av l1) => (KREF.out av l1 cv key h s g1 (g1 + step) W (by omega) hh).mono (fun _ _ hs => setAns_one hs))
            have hwr : IntKind.i64.wrap (g1 + step) = g1 + step := IntWalk.i64_in _ (by omega)
            have HE : Hid (setE no g1 l1 key h s (g1 + step) = 0 → (ptL l1 key h s).length ≤ 8) := fun he => (pgOk_parts (put_right he)).2.2.2.2.1
            generalize setE no g1 l1 key h s (g1 + step) = E at *
            clear L1 L2 L3 D1 D2 D3 CL1 CL2 CL3
            go_upto_region 9 with fail
            go_cut [11, 12] from 40 to 137 (fun v11 v12 wy => ∃ (Q : Nat), v11 = .pointer (some ⟨Q, 0, none⟩) ∧ v12 = .int .i64 E ∧ Hid (QIs wx wy Q no (g1 + step) l1 key h s E))
            case first =>
              have KA := Lib.hid (K9.out wx.drew (cl_drew CX.out))
              have KB := Lib.hid (K9.out (wx.alloc (.cells #[.int .i64 0, .int .i64 0, .slice none 0 0] 24)).drew (cl_drew (cl_alloc CX.out)))
              go_region_held3 (fun w' => w'.cell? ⟨w.heap.size, 0, none⟩ = some (.int .i64 no) ∧ w'.cell? ⟨w.heap.size, 1, none⟩ = some (.int .i64 g1) ∧ w'.cell? ⟨w.heap.size, 2, none⟩ = some (.slice a1 l1.length c1) ∧ w'.cell? ⟨kb, koff + k, none⟩ = some (.string key) ∧ w'.cell? ⟨vb, voff + k * 2, none⟩ = some (.bool h) ∧ w'.cell? ⟨vb, voff + k * 2 + 1, none⟩ = some (.string s))
                ((refine ⟨?_, ?_, ?_, ?_, ?_, ?_⟩ <;> (repeat (first | with_reducible assumption | with_reducible refine set_keep (by have := hwl; simp; omega) ?_ | with_reducible refine keep_alloc ?_ | with_reducible refine keep_drew ?_ | with_reducible refine keep_cell (by assumption) ?_))))
                (first
                  | (go_at_call 15; (with_reducible refine KA.out.mono ?_); rintro e9 w9 ⟨n', g', a', c', l', rfl, hcl9, hA9, hb9⟩)
                  | (go_at_call 15; (with_reducible refine KB.out.mono ?_); rintro e9 w9 ⟨n', g', a', c', l', rfl, hcl9, hA9, hb9⟩; obtain ⟨z0, z1, z2, zf⟩ := box_call hb9))
              all_goals go_wp2_with fail
              all_goals go_meet
              all_goals first
                | exact ⟨_, rfl, rfl, qis_new hcl9 hA9.out ((Below.refl _ wx).drew.trans hb9)⟩
                | exact ⟨_, rfl, rfl, qis_set hcl9 hA9.out hb9⟩
            case rest =>
            obtain ⟨Q, rfl, rfl, HQ⟩ := hcut
            rename World => wy
            have hby := HQ.out.bw
            have x1 := keep_cell hby x1
            have y1 := keep_cell hby y1
            have y2 := keep_cell hby y2
            have p1 := keep_cell hby p1
            have HWy := Lib.hid (HW.out.below hby)
            have b0 := HWy.out.b0
            have b1 := HWy.out.b1
            have b2 := HWy.out.b2
            have hwy : w.heap.size < wy.heap.size := block_lt p1
            have hky : kb < wy.heap.size := block_lt x1
            have hvy : vb < wy.heap.size := block_lt y1
            have hBy : B < wy.heap.size := block_lt b0
            have CY := Lib.hid HWy.out.cl
            clear hby hwx hkx hvx p0 p2 K9 HW
            go_upto_region 10 with fail
            go_cut [13, 14] from 40 to 137 (fun v13 v14 wz => ∃ (R : Nat), v13 = .pointer (some ⟨R, 0, none⟩) ∧ v14 = .int .i64 E ∧ Hid (QIs wy wz R no (g1 + step) l1 key h s E))
            case first =>
              have KA := Lib.hid (K10.out wy.drew (cl_drew CY.out))
              have KB := Lib.hid (K10.out (wy.alloc (.cells #[.int .i64 0, .int .i64 0, .slice none 0 0] 24)).drew (cl_drew (cl_alloc CY.out)))
              go_region_held3 (fun w' => w'.cell? ⟨B, 0, none⟩ = some (.int .i64 no) ∧ w'.cell? ⟨B, 1, none⟩ = some (.int .i64 g1) ∧ w'.cell? ⟨B, 2, none⟩ = some (.slice av l1.length cv) ∧ w'.cell? ⟨w.heap.size, 1, none⟩ = some (.int .i64 g1) ∧ w'.cell? ⟨kb, koff + k, none⟩ = some (.string key) ∧ w'.cell? ⟨vb, voff + k * 2, none⟩ = some (.bool h) ∧ w'.cell? ⟨vb, voff + k * 2 + 1, none⟩ = some (.string s))
                ((refine ⟨?_, ?_, ?_, ?_, ?_, ?_, ?_⟩ <;> (repeat (first | with_reducible assumption | with_reducible refine set_keep (by have := hwl; simp; omega) ?_ | with_reducible refine keep_alloc ?_ | with_reducible refine keep_drew ?_ | with_reducible refine keep_cell (by assumption) ?_))))
                (first
                  | (go_at_call 16; (with_reducible refine KA.out.mono ?_); rintro e9 w9 ⟨n', g', a', c', l', rfl, hcl9, hA9, hb9⟩)
                  | (go_at_call 16; (with_reducible refine KB.out.mono ?_); rintro e9 w9 ⟨n', g', a', c', l', rfl, hcl9, hA9, hb9⟩; obtain ⟨z0, z1, z2, zf⟩ := box_call hb9))
              all_goals go_wp2_with fail
              all_goals go_meet
              all_goals first
                | exact ⟨_, rfl, rfl, qis_new hcl9 hA9.out ((Below.refl _ wy).drew.trans hb9)⟩
                | exact ⟨_, rfl, rfl, qis_set hcl9 hA9.out hb9⟩
            case rest =>
            obtain ⟨R, rfl, rfl, HR⟩ := hcut
            rename World => wz
            have hbz := HR.out.bw
            have CZ := Lib.hid ((CX.out.below HQ.out.bw).below hbz)
            have HIz := Lib.hid (((HI.out.below HWb.out).below HQ.out.bw).below hbz)
            have HWz := Lib.hid (HWy.out.below hbz)
            obtain ⟨n', g', a', c', l', WQ, AQ⟩ := HQ.out.below hbz
            obtain ⟨n2, g2, a2, c2, l2, WR, AR⟩ := HR.out
            obtain ⟨rfl, rfl, rfl⟩ := ans_same AQ AR
            have hl' := ans_len AQ HE.out
            have hps : pgSame n2 g2 l2 n2 g2 l2 = true := by simp [pgSame]
            have hps2 : pgSame no g1 l1 no g1 l1 = true := by simp [pgSame]
            have S1 := KSM.out n2 g2 a' l2 c' n2 g2 a2 l2 c2 wz (by omega) WQ.cl WR.cl
            rw [hps] at S1
            have S1 := Lib.hid S1
            have S2 := Lib.hid (fun W (hb : Below wz.heap.size wz W) => KSM.out no g1 a1 l1 c1 no g1 av l1 cv W (by omega) (CZ.out.below hb) (HWz.out.cl.below hb))
            rw [hps2] at S2
            have q0 := WQ.b0
            have q1 := WQ.b1
            have q2 := WQ.b2
            have r0 := WR.b0
            have r1 := WR.b1
            have r2 := WR.b2
            have AQ := Lib.hid AQ
            clear WQ WR AR hps hps2 hbz x1 y1 y2 p1 b0 b1 b2 K10 HR HQ HWy CY CX hwr hwy hky hvy hBy KREF
            go_wp2_with fail
            refine S1.out.mono ?_
            rintro e wq ⟨rfl, hbq⟩
            have p0 := keep_cell hbq HIz.out.p0
            have p1 := keep_cell hbq HIz.out.p1
            have p2 := keep_cell hbq HIz.out.p2
            have b0 := keep_cell hbq HWz.out.b0
            have b1 := keep_cell hbq HWz.out.b1
            have b2 := keep_cell hbq HWz.out.b2
            have q0 := Lib.hid (keep_cell hbq q0)
            have q1 := Lib.hid (keep_cell hbq q1)
            have q2 := Lib.hid (keep_cell hbq q2)
            have HIq := Lib.hid (HIz.out.below hbq)
            have AQ := Lib.hid (AQ.out.below hbq)
            have S3 := Lib.hid (S2.out wq hbq)
            clear hbq S1 S2 r0 r1 r2
            go_wp2_with fail
            refine S3.out.mono ?_
            rintro e wr ⟨rfl, hbr⟩
            have HIr := Lib.hid (HIq.out.below hbr)
            have AQ := Lib.hid (AQ.out.below hbr)
            have q0 := keep_cell hbr q0.out
            have q1 := keep_cell hbr q1.out
            have q2 := keep_cell hbr q2.out
            clear hbr S3 p0 p1 p2 b0 b1 b2
            by_cases hE : E = 0
            · subst hE
              obtain ⟨rfl, hr, hc', hz'⟩ := ans_zero AQ.out
              have p0 := HIr.out.p0
              have p1 := HIr.out.p1
              have p2 := HIr.out.p2
              have pf := HIr.out.pf
              have HRW := Lib.hid hr
              clear hr
              go_wp2
              go_roundw
              case rel => exact ⟨k + 1, g2, a', l2, c', by omega, by go_num, hl', hc', hz', PsI.set HIr.out (HRW.out.base (by have h0 : w.heap.size < wx.heap.size := block_lt HWb0.out; omega)) rfl⟩
              case measure => simp [intOf]; omega
            · have hE2 : (E == 0) = false := by rw [beq_eq_false_iff_ne]; exact hE
              clear q0 q1 q2
              go_wp2
              go_roundw
              case rel => exact ⟨k + 1, g1, a1, l1, c1, by omega, by go_num, h20, hc1, hz1, HIr.out⟩
              case measure => simp [intOf]; omega
      · have hk1 : (k : Int) < (ks.length : Int) := by omega
        have hk2 : (vs.length : Int) ≤ (k : Int) := by omega
        go_wp2
        go_ret
        exact ⟨rfl, HI.out.bw⟩
    · have hk1 : (ks.length : Int) ≤ (k : Int) := by omega
      go_wp2
      go_ret
      exact ⟨rfl, HI.out.bw⟩
theorem pageSets_walk (no g : Int) (a : Option Addr) (l : List (ByteArray × ByteArray)) (c : Nat) (ka : Option Addr) (ks : List ByteArray) (kc : Nat) (va : Option Addr) (vs : List (Bool × ByteArray)) (vc : Nat) (step : Int) (w : World) (hn : l.length ≤ maxLen) (hlc : l.length ≤ c) (hz : a = none → c = 0) (ha : ClsAt w a l) (hkn : ks.length ≤ maxLen) (hka : KeysAt w ka ks) (hvn : vs.length ≤ maxLen) (hva : ValsAt w va vs) (ht : Tab w) :
    Calls Tryd.prog 4 #[.agg #[.int .i64 no, .int .i64 g, .slice a l.length c], .slice ka ks.length kc, .slice va vs.length vc, .int .i64 step] w fun e w' => e = .returned (.bool true) ∧ Below w.heap.size w w' := by
  by_cases hbad : clGreat l = true ∨ 20 < ks.length ∨ 20 < vs.length ∨ 1000000 < step ∨ step < -1000000
  · exact pageSets_early no g a l c ka ks kc va vs vc step w hn hkn hvn ha ht hbad
  · have hG : clGreat l = false := by
      cases q : clGreat l
      · rfl
      · exact absurd (.inl q) hbad
    exact pageSets_main no g a l c ka ks kc va vs vc step w hn hlc hz ha hka hva ht hG (by omega) (by omega) (by omega) (by omega)
end Go.Proofs.YtgkpbchpjgkblaaDoor
