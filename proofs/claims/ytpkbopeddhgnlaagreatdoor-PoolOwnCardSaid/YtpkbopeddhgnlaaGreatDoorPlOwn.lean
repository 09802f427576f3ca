/-
  THE CONTRACT OF pool's own: a page with cells of its own.
-/
import Derived.Test.YtpkbopeddhgnlaaGreatDoorPlMap
namespace Go.Proofs.YtpkbopeddhgnlaaGreatDoor
open Go.RowKit
/-- A page that lies at the beginning of a block. -/
structure Pg3 (W : World) (R : Nat) (no g : Int) (v : Value) : Prop where
  p0 : W.cell? ⟨R, 0, none⟩ = some (.int .i64 no)
  p1 : W.cell? ⟨R, 1, none⟩ = some (.int .i64 g)
  p2 : W.cell? ⟨R, 2, none⟩ = some v
  pf : ∀ i, W.frozen? ⟨R, i, none⟩ = false
section
variable {W X : World} {R : Nat} {no g : Int} {v : Value}
theorem Pg3.lt (h : Pg3 W R no g v) : R < W.heap.size := Dv.block_lt h.p0
theorem Pg3.of_block (h : Pg3 W R no g v) (hb : X.heap[R]? = W.heap[R]?) : Pg3 X R no g v :=
  ⟨(World.cell?_of_block (a := ⟨R, 0, none⟩) hb).trans h.p0, (World.cell?_of_block (a := ⟨R, 1, none⟩) hb).trans h.p1, (World.cell?_of_block (a := ⟨R, 2, none⟩) hb).trans h.p2, fun i => (World.frozen?_of_block (a := ⟨R, i, none⟩) hb).trans (h.pf i)⟩
theorem Pg3.below (h : Pg3 W R no g v) (hb : Below W.heap.size W X) : Pg3 X R no g v := h.of_block (hb.block R h.lt)
theorem Pg3.new (W : World) (T : TypeId) (no g : Int) (v : Value) (rest : List Value) : Pg3 (W.alloc (.cells (⟨.int .i64 no :: .int .i64 g :: v :: rest⟩ : Array Value) T)) W.heap.size no g v :=
  ⟨Dv.new_cell rfl rfl, Dv.new_cell rfl rfl, Dv.new_cell rfl rfl, fun _ => World.frozen?_alloc_at _ _ _ _ rfl⟩
/-- A store of a whole page. -/
theorem Pg3.put (h : Pg3 W R no g v) (no2 g2 : Int) (v2 : Value) : Pg3 (((W.setCell ⟨R, 0, none⟩ (.int .i64 no2)).setCell ⟨R, 1, none⟩ (.int .i64 g2)).setCell ⟨R, 2, none⟩ v2) R no2 g2 v2 := by
  obtain ⟨X, hX, x0, x1, x2, _, hg⟩ := set3 (B := 0) (v0 := .int .i64 no2) (v1 := .int .i64 g2) (v2 := v2) (Below.refl 0 W) (Nat.zero_le R) h.p0 h.p1 h.p2
  rw [← hX]
  refine ⟨x0, x1, x2, fun i => ?_⟩
  rw [hX, World.frozen?_setCell, World.frozen?_setCell, World.frozen?_setCell]; exact h.pf i
theorem Pg3.putV (h : Pg3 W R no g v) (v2 : Value) : Pg3 (W.setCell ⟨R, 2, none⟩ v2) R no g v2 := by
  refine ⟨?_, ?_, World.cell?_setCell_same _ _ _ h.p2, fun i => by rw [World.frozen?_setCell]; exact h.pf i⟩
  · rw [World.cell?_setCell_other _ _ _ _ (fun e => by injection e with _ e; cases e)]; exact h.p0
  · rw [World.cell?_setCell_other _ _ _ _ (fun e => by injection e with _ e; cases e)]; exact h.p1
theorem Pg3.other (h : Pg3 W R no g v) (p : Addr) (u : Value) (hp : R ≠ p.block) : Pg3 (W.setCell p u) R no g v := h.of_block (Below.heap_setCell W p u R hp)
theorem Pg3.put3_other (h : Pg3 W R no g v) (Q : Nat) (u0 u1 u2 : Value) (hp : R ≠ Q) : Pg3 (((W.setCell ⟨Q, 0, none⟩ u0).setCell ⟨Q, 1, none⟩ u1).setCell ⟨Q, 2, none⟩ u2) R no g v := ((h.other ⟨Q, 0, none⟩ u0 hp).other ⟨Q, 1, none⟩ u1 hp).other ⟨Q, 2, none⟩ u2 hp
end
/-- slices.Clone of cells. -/
theorem clone_cls (a : Option Addr) (l : List (ByteArray × ByteArray)) (c : Nat) (W : World) (hl : l.length ≤ 1000) (ha : ClsAt W a l) (hz : a = none ∨ ∃ b off, a = some ⟨b, off, none⟩) :
    Calls Tryz.prog 48 #[.slice a l.length c] W fun x w' => ∃ a' c', x = .returned (.slice a' l.length c') ∧ RowC w' W.heap.size (.slice a' l.length c') l ∧ Below W.heap.size W w' := by
  rcases hz with rfl | ⟨b, off, rfl⟩
  · have hn : l = [] := by
      rcases ha with h | ⟨b, off, e, _⟩
      · exact h
      · cases e
    subst hn
    refine (show Calls Tryz.prog 48 #[.slice none 0 c] W _ from AnyE.slices_Clone_nil Tryz.cloneA 0 c W).mono ?_
    rintro x w' ⟨rfl, rfl⟩
    exact ⟨none, 0, rfl, World.ownsRow_nil _ _ _ _, Below.refl _ _⟩
  · obtain ⟨i0, hi, hzz⟩ := Option.map_eq_some_iff.1 infoC
    simp only [Prod.mk.injEq] at hzz
    obtain ⟨hz0, hz1, hz2⟩ := hzz
    have hc : ∀ j u, (clsC l)[j]? = some u → W.cell? ⟨b, off + j, none⟩ = some u := fun j u hj => by
      have hjl : j < l.length * 2 := by
        have := (List.getElem?_eq_some_iff.1 hj).1
        rw [clsC_len] at this; exact this
      rcases ha with h | ⟨bb, off2, e, hcs⟩
      · subst h; cases hj
      · cases e
        obtain ⟨g1, g2⟩ := clsC_get l (j / 2) (by omega)
        obtain ⟨k1, k2⟩ := hcs (j / 2) (by omega)
        rcases Nat.mod_two_eq_zero_or_one j with hp | hp
        · have e1 : j / 2 * 2 = j := by omega
          rw [e1] at g1 k1
          rw [hj] at g1
          rw [k1]; exact g1.symm
        · have e1 : j / 2 * 2 + 1 = j := by omega
          rw [e1] at g2
          rw [Nat.add_assoc, e1] at k2
          rw [hj] at g2
          rw [k2]; exact g2.symm
    have h := AnyE.slices_Clone Tryz.cloneA i0 _ 2 32 hi hz0 hz1 hz2 rfl (by decide) Tryz.sizeOf39 b off l.length c (clsC l) W (clsC_len l) (by unfold maxLen; omega) (by omega) hc (cls_one l)
    refine (show Calls Tryz.prog 48 #[.slice (some ⟨b, off, none⟩) l.length c] W _ from h).mono ?_
    rintro x w' ⟨v, rfl, hrow, hne, hb⟩
    have hr : RowC w' W.heap.size v l := hrow
    obtain ⟨a', c', rfl, _⟩ := hr.cls
    exact ⟨a', c', rfl, hr, hb⟩
theorem RowC.spot {W : World} {B c n : Nat} {a : Option Addr} {l : List (ByteArray × ByteArray)} (h : RowC W B (.slice a n c) l) : a = none ∨ ∃ b off, a = some ⟨b, off, none⟩ := by
  rcases h.2 with ⟨hv, _⟩ | ⟨g, cap, cur, hv, _⟩
  · injection hv with hv; exact .inl hv
  · injection hv with hv; exact .inr ⟨g, 0, hv⟩
/-- What own answers. -/
def OwnP (W : World) (no g : Int) (l : List (ByteArray × ByteArray)) (x : Ending) (w' : World) : Prop := ∃ a' c', x = .returned (.agg #[.int .i64 no, .int .i64 g, .slice a' l.length c']) ∧ RowC w' W.heap.size (.slice a' l.length c') l ∧ Below W.heap.size W w'
set_option maxRecDepth 100000 in
set_option maxHeartbeats 2000000 in
theorem own_any (no g : Int) (a : Option Addr) (l : List (ByteArray × ByteArray)) (c : Nat) (W : World) (hl : l.length ≤ 1000) (ha : ClsAt W a l) (hz : a = none ∨ ∃ b off, a = some ⟨b, off, none⟩) :
    Calls Tryz.prog 27 #[.agg #[.int .i64 no, .int .i64 g, .slice a l.length c]] W (OwnP W no g l) := by
  have hb1 := (Below.refl W.heap.size W).alloc (Nat.le_refl _) (.cells #[.int .i64 no, .int .i64 g, .slice a l.length c] 26)
  have hb2 := hb1.alloc hb1.size (.cells #[.int .i64 0, .int .i64 0, .slice none 0 0] 26)
  have hP := (Pg3.new W 26 no g (.slice a l.length c) []).below ((Below.refl _ _).alloc (Nat.le_refl _) (.cells #[.int .i64 0, .int .i64 0, .slice none 0 0] 26))
  have hR := Pg3.new (W.alloc (.cells #[.int .i64 no, .int .i64 g, .slice a l.length c] 26)) 26 0 0 (.slice none 0 0) []
  have hs1 : (W.alloc (.cells #[.int .i64 no, .int .i64 g, .slice a l.length c] 26)).heap.size = W.heap.size + 1 := by simp
  rw [hs1] at hR
  have KC := Lib.hid (fun (X : World) (hX : Below W.heap.size W X) => clone_cls a l c X hl (ha.below hX) hz)
  have HL : Hid (l.length ≤ 1000) := hl
  obtain ⟨n, hn⟩ : ∃ n, n = l.length := ⟨_, rfl⟩
  have HN := Lib.hid hn
  rw [← hn] at hb1 hb2 hP hR KC ⊢
  clear hs1 ha hz hl hn
  go_enter Tryz.func27, Tryz.ntmps27
  go_upto_region 1 with fail
  generalize (W.alloc (.cells #[.int .i64 no, .int .i64 g, .slice a n c] 26)).alloc (.cells #[.int .i64 0, .int .i64 0, .slice none 0 0] 26) = X at *
  have KC1 := Lib.hid (KC.out X hb2)
  have hp2 := hP.p2
  have HP := Lib.hid hP
  have HR := Lib.hid hR
  have HB := Lib.hid hb2
  clear KC hP hR hb1 hb2
  go_wp2_with fail
  refine KC1.out.mono ?_
  rintro x w1 ⟨a', c', rfl, hrow, hbw⟩
  have hP1 := HP.out.below hbw
  have hR1 := HR.out.below hbw
  have hx : W.heap.size + 1 < X.heap.size := HR.out.lt
  have HX := Lib.hid hx
  have hrow3 : RowC (w1.setCell ⟨W.heap.size, 2, none⟩ (.slice a' n c')) X.heap.size (.slice a' n c') l := World.ownsRow.kept hrow (grown_cell w1 W.heap.size 2 _) (by
    cases ho : (Value.slice a' n c').ownBlock with
    | none => exact .inl rfl
    | some k => exact .inr (fun e => by
        injection e with e
        have := (World.ownsRow.lt hrow k ho).1
        omega))
  have HB1 := Lib.hid (HB.out.trans (hbw.mono HB.out.size))
  clear hrow hbw hp2 HP HR HB KC1
  have hP2 := hP1.putV (.slice a' n c')
  have hR2 := hR1.other ⟨W.heap.size, 2, none⟩ (.slice a' n c') (by simp)
  have hb3 := HB1.out.setCell (p := ⟨W.heap.size, 2, none⟩) (Nat.le_refl _) (.slice a' n c')
  have hrw3 : RowC (w1.setCell ⟨W.heap.size, 2, none⟩ (.slice a' n c')) X.heap.size (.slice a' n c') l := hrow3
  have q2 := hP1.p2
  have qf := hP1.pf 2
  clear hrow3 HB1 HL
  have HB3 := Lib.hid hb3
  have HR3 := Lib.hid hrw3
  have HP2 := Lib.hid hP2
  have HR2 := Lib.hid hR2
  clear hb3 hrw3 hP2 hR2 hP1 hR1
  go_upto_region 2 with fail
  generalize w1.setCell ⟨W.heap.size, 2, none⟩ (.slice a' n c') = Y at *
  obtain ⟨p0, p1, p2, pf⟩ := HP2.out
  obtain ⟨r0, r1, r2, rf⟩ := HR2.out
  clear q2 qf
  go_wp2
  obtain ⟨Z, hZ, x0, x1, x2, hbZ, hgZ⟩ := set3 (B := W.heap.size) (v0 := .int .i64 no) (v1 := .int .i64 g) (v2 := .slice a' n c') HB3.out (by omega) r0 r1 r2
  rw [← hZ]
  have hrz : RowC Z X.heap.size (.slice a' n c') l := World.ownsRow.kept HR3.out hgZ (by
    cases ho : (Value.slice a' n c').ownBlock with
    | none => exact .inl rfl
    | some k => exact .inr (fun e => by
        injection e with e
        have h1 := (World.ownsRow.lt HR3.out k ho).1
        have h2 := HX.out
        omega))
  refine bodyPost_ret (v := .agg #[.int .i64 no, .int .i64 g, .slice a' n c']) ?_ rfl ⟨a', c', by rw [← HN.out], by rw [← HN.out]; exact hrz.base (by have := HX.out; omega), hbZ⟩
  simp [results, Tryz.results27, go_sem, x0, x1, x2]
end Go.Proofs.YtpkbopeddhgnlaaGreatDoor
