/-
  A POOL IN MEMORY: a map of frames' blocks by pages' numbers; strings.Clone, pool.own, the shelf's Clone of cells, Held.
  THE CONTRACT OF pool's own: a page with cells of its own.
  A POOL AS A STATE: its pages' device, its frames, each with a page of its own, what is dirty, what is pinned.
  A POOL, A BLOCK OF ITS OWN WRITTEN: a frame's page, a frame's first, a new frame, a frame less.
  THE CONTRACTS OF pool's New, dirty, idle; of calls on no pool.
  THE CONTRACT OF pool's Get: a page at hand; one that is read, where there is room.
  THE CONTRACTS OF pool's Held (sorted keys), each, kept (of a page without cells), Change.
-/
import Derived.Test.YtkemhkmabbladaaGreatDoorPlTw
import Derived.Test.YtkemhkmabbladaaGreatDoorLooseShelf
import Derived.Test.YtkemhkmabbladaaGreatDoorJoin
import Derived.Maps.OwnSet
import Derived.Maps.Views
import Derived.Shelf.SlIterI.Nil
import Derived.Shelf.SortM.Plain
import Derived.Shelf.SortM.SortNone
import Derived.Shelf.SlicesE.Clone
import Derived.Deep.RegionHeld3
import Derived.Deep.Cut
namespace Go.Proofs.YtkemhkmabbladaaGreatDoor
open Go.RowKit Go.Maps Go.ChangeMaps Go.MapKept Go.WideElems
/-- How a frame in a map reads: by the number of its block. -/
def encF : Option Nat → Int
  | none => 0
  | some b => (b : Int) + 1
theorem encF_inj {a b : Option Nat} (h : encF a = encF b) : a = b := by
  cases a <;> cases b <;> simp [encF] at h ⊢ <;> omega
def frV : Option Nat → Value
  | none => .pointer none
  | some b => .pointer (some ⟨b, 0, none⟩)
theorem frV_inj {a b : Option Nat} (h : frV a = frV b) : a = b := by
  cases a <;> cases b <;> simp [frV] at h ⊢
  exact h
noncomputable def frR {H : Type} (v : Value) : Option (DataW H × List MemPlace) := by
  classical
  exact if h : ∃ o, v = frV o then some (.lit (.int .i64 (encF h.choose)), []) else none
theorem frR_of {H : Type} (o : Option Nat) : frR (H := H) (frV o) = some (.lit (.int .i64 (encF o)), []) := by
  have h : ∃ o', frV o = frV o' := ⟨o, rfl⟩
  unfold frR
  rw [dif_pos h, ← frV_inj h.choose_spec]
theorem frR_inv {H : Type} {v : Value} {z : DataW H × List MemPlace} (h : frR v = some z) : ∃ o, v = frV o ∧ z = (.lit (.int .i64 (encF o)), []) := by
  unfold frR at h
  split at h
  · rename_i hx
    exact ⟨_, hx.choose_spec, (Option.some.inj h).symm⟩
  · cases h
theorem pl_key : Keyed Tryz.prog 3 := int_keyed Tryz.underlying3
theorem zero_fr (w : World) : (zeroValue 90).run Tryz.prog w = .ok (frV none) w := by
  have h : (Tryz.prog.info? 90).map (·.zero) = some (some (.pointer none)) := by kernel_rfl
  obtain ⟨i, hi, hz⟩ := Option.map_eq_some_iff.1 h
  simp [zeroValue, typeInfo, hi, hz, frV]
/-- Block M is a map of frames: those of o. -/
def FrAt (W : World) (M n : Nat) (o : Int → Option Nat) : Prop := ∃ D, W.ownsMap Tryz.prog 3 (frR (H := Unit)) M n D ∧ (∀ i, D.atKey (.int .i64 i) (.lit (.int .i64 0)) = .lit (.int .i64 (encF (o i)))) ∧ ∀ i, has D (.int .i64 i) = (o i).isSome
theorem FrAt.of_block {W W' : World} {M n : Nat} {o : Int → Option Nat} (h : FrAt W M n o) (hb : W'.heap[M]? = W.heap[M]?) : FrAt W' M n o := by
  obtain ⟨D, ⟨es, clock, h1, F, hs, hD⟩, h2⟩ := h
  exact ⟨D, ⟨es, clock, hb.trans h1, F, hs, hD⟩, h2⟩
theorem FrAt.lt {W : World} {M n : Nat} {o : Int → Option Nat} (h : FrAt W M n o) : M < W.heap.size := by
  obtain ⟨D, h1, _⟩ := h
  exact h1.lt
theorem FrAt.mono {W : World} {M n n' : Nat} {o : Int → Option Nat} (h : FrAt W M n o) (hn : n ≤ n') : FrAt W M n' o := by
  obtain ⟨D, h1, h2⟩ := h
  exact ⟨D, h1.mono hn, h2⟩
theorem fr_empty (i : Int) : (DataW.map (H := Unit) []).atKey (.int .i64 i) (.lit (.int .i64 0)) = .lit (.int .i64 0) := atKey_of_not_has (by simp [has_eq]) _
theorem FrAt.made (W : World) : FrAt (W.alloc (.map #[] 0)) W.heap.size 0 (fun _ => none) :=
  ⟨.map [], World.ownsMap_made W _ _ _, fun i => fr_empty i, fun i => by simp [has_eq]⟩
set_option maxRecDepth 100000 in
theorem FrAt.look {W : World} {M n : Nat} {o : Int → Option Nat} (h : FrAt W M n o) (i : Int) (hi : (Lit.int .i64 i).wf = true) :
    (Instr.lookup 56 (.map (some M)) (.int .i64 i) false).run Tryz.prog W = .ok (frV (o i)) W := by
  obtain ⟨D, h1, h2, _⟩ := h
  obtain ⟨v, ps, hrun, hv⟩ := h1.lookup pl_key Tryz.underlying56 (zero_fr W) (frR_of none) (keyOf_int_mk Tryz.underlying3 hi)
  rw [hrun]
  obtain ⟨o', rfl, hz⟩ := frR_inv hv
  simp only [Prod.mk.injEq] at hz
  have h4 := hz.1
  rw [show (DataW.lit (H := Unit) (.int .i64 (encF none))) = .lit (.int .i64 0) from rfl, h2 i] at h4
  have : encF (o i) = encF o' := by injection h4 with h4; injection h4
  rw [encF_inj this]
set_option maxRecDepth 100000 in
theorem FrAt.lookOk {W : World} {M n : Nat} {o : Int → Option Nat} (h : FrAt W M n o) (i : Int) (hi : (Lit.int .i64 i).wf = true) :
    (Instr.lookup 56 (.map (some M)) (.int .i64 i) true).run Tryz.prog W = .ok (.tuple #[frV (o i), .bool (o i).isSome]) W := by
  obtain ⟨D, h1, h2, h3⟩ := h
  obtain ⟨v, ps, hrun, hv⟩ := h1.look_ok pl_key Tryz.underlying56 (zero_fr W) (frR_of none) (keyOf_int_mk Tryz.underlying3 hi)
  rw [hrun]
  obtain ⟨o', rfl, hz⟩ := frR_inv hv
  simp only [Prod.mk.injEq] at hz
  have h4 := hz.1
  rw [show (DataW.lit (H := Unit) (.int .i64 (encF none))) = .lit (.int .i64 0) from rfl, h2 i] at h4
  have : encF (o i) = encF o' := by injection h4 with h4; injection h4
  have e := encF_inj this
  rw [h3 i, ← e]
def updF (f : Int → Option Nat) (i : Int) (z : Option Nat) : Int → Option Nat := fun k => if k = i then z else f k
theorem FrAt.store {W : World} {M n : Nat} {o : Int → Option Nat} (h : FrAt W M n o) (i : Int) (hi : (Lit.int .i64 i).wf = true) (b : Nat) (hn : n < maxLen) :
    ∃ W', (Instr.mapUpdate 56 (.map (some M)) (.int .i64 i) (.pointer (some ⟨b, 0, none⟩))).run Tryz.prog W = .ok () W' ∧ FrAt W' M (n + 1) (updF o i (some b)) ∧ W.grownBy W' (some M) ∧ W'.heap.size = W.heap.size := by
  obtain ⟨D, h1, h2, h3⟩ := h
  have hk := keyOf_int_mk (P := Tryz.prog) Tryz.underlying3 hi
  obtain ⟨W', hrun, hown, hg⟩ := h1.store pl_key Tryz.underlying56 hn hk (frR_of (some b))
  refine ⟨W', hrun, ⟨_, hown, fun k => ?_, fun k => ?_⟩, hg.grown, ?_⟩
  · unfold updF
    by_cases e : k = i
    · subst e
      rw [atKey_put_same h1.isMap (show WideAt.IsKeyLit (.int .i64 k) from trivial), if_pos rfl]
    · rw [atKey_put_other (by intro x; injection x with _ x; exact e x), if_neg e]; exact h2 k
  · unfold updF
    by_cases e : k = i
    · subst e
      rw [has_put_same h1.isMap (show WideAt.IsKeyLit (.int .i64 k) from trivial), if_pos rfl]; rfl
    · rw [has_put_other (by intro x; injection x with _ x; exact e x), if_neg e]; exact h3 k
  · obtain ⟨es, clock, es', clock', hb, hw⟩ := hg
    rw [hw]; simp [setBlock]
theorem FrAt.len {W : World} {M n : Nat} {o : Int → Option Nat} (h : FrAt W M n o) (ty : TypeId) :
    ∃ c : Nat, c ≤ n ∧ (Builtin.len_ #[56] ty #[.map (some M)]).run Tryz.prog W = .ok (.int .i64 (c : Int)) W := by
  obtain ⟨D, h1, h2, h3⟩ := h
  exact ⟨size D, h1.size_le, h1.len Tryz.underlying56 ty⟩
/-! ### strings.Clone, slices.Clone of cells, own -/
theorem clone_str (s : ByteArray) (W : World) (hs : s.size ≤ 281474976710656) : Calls Tryz.prog 77 #[.string s] W fun x w' => x = .returned (.string s) ∧ Below W.heap.size W w' := by
  have KC := Lib.hid (Tryz.stringslite_Clone s W hs)
  go_enter Tryz.func77, Tryz.ntmps77
  go_wp2_with fail
  refine KC.out.mono ?_
  rintro x w1 ⟨rfl, hb⟩
  go_wp2
  go_ret
  exact ⟨rfl, hb⟩
end Go.Proofs.YtkemhkmabbladaaGreatDoor

namespace Go.Proofs.YtkemhkmabbladaaGreatDoor
open Go.RowKit
/-- A page that lies at the beginning of a block. -/
structure Pg3 (W : World) (R : Nat) (no g : Int) (v : Value) : Prop where
  p0 : W.cell? ⟨R, 0, none⟩ = some (.int .i64 no)
  p1 : W.cell? ⟨R, 1, none⟩ = some (.int .i64 g)
  p2 : W.cell? ⟨R, 2, none⟩ = some v
  pf : ∀ i, W.frozen? ⟨R, i, none⟩ = false
section
variable {W X : World} {R : Nat} {no g : Int} {v : Value}
theorem Pg3.lt (h : Pg3 W R no g v) : R < W.heap.size := Dv.block_lt h.p0
theorem Pg3.of_block (h : Pg3 W R no g v) (hb : X.heap[R]? = W.heap[R]?) : Pg3 X R no g v :=
  ⟨(World.cell?_of_block (a := ⟨R, 0, none⟩) hb).trans h.p0, (World.cell?_of_block (a := ⟨R, 1, none⟩) hb).trans h.p1, (World.cell?_of_block (a := ⟨R, 2, none⟩) hb).trans h.p2, fun i => (World.frozen?_of_block (a := ⟨R, i, none⟩) hb).trans (h.pf i)⟩
theorem Pg3.below (h : Pg3 W R no g v) (hb : Below W.heap.size W X) : Pg3 X R no g v := h.of_block (hb.block R h.lt)
theorem Pg3.new (W : World) (T : TypeId) (no g : Int) (v : Value) (rest : List Value) : Pg3 (W.alloc (.cells (⟨.int .i64 no :: .int .i64 g :: v :: rest⟩ : Array Value) T)) W.heap.size no g v :=
  ⟨Dv.new_cell rfl rfl, Dv.new_cell rfl rfl, Dv.new_cell rfl rfl, fun _ => World.frozen?_alloc_at _ _ _ _ rfl⟩
/-- A store of a whole page. -/
theorem Pg3.put (h : Pg3 W R no g v) (no2 g2 : Int) (v2 : Value) : Pg3 (((W.setCell ⟨R, 0, none⟩ (.int .i64 no2)).setCell ⟨R, 1, none⟩ (.int .i64 g2)).setCell ⟨R, 2, none⟩ v2) R no2 g2 v2 := by
  obtain ⟨X, hX, x0, x1, x2, _, hg⟩ := set3 (B := 0) (v0 := .int .i64 no2) (v1 := .int .i64 g2) (v2 := v2) (Below.refl 0 W) (Nat.zero_le R) h.p0 h.p1 h.p2
  rw [← hX]
  refine ⟨x0, x1, x2, fun i => ?_⟩
  rw [hX, World.frozen?_setCell, World.frozen?_setCell, World.frozen?_setCell]; exact h.pf i
theorem Pg3.putV (h : Pg3 W R no g v) (v2 : Value) : Pg3 (W.setCell ⟨R, 2, none⟩ v2) R no g v2 := by
  refine ⟨?_, ?_, World.cell?_setCell_same _ _ _ h.p2, fun i => by rw [World.frozen?_setCell]; exact h.pf i⟩
  · rw [World.cell?_setCell_other _ _ _ _ (fun e => by injection e with _ e; cases e)]; exact h.p0
  · rw [World.cell?_setCell_other _ _ _ _ (fun e => by injection e with _ e; cases e)]; exact h.p1
theorem Pg3.other (h : Pg3 W R no g v) (p : Addr) (u : Value) (hp : R ≠ p.block) : Pg3 (W.setCell p u) R no g v := h.of_block (Below.heap_setCell W p u R hp)
theorem Pg3.put3_other (h : Pg3 W R no g v) (Q : Nat) (u0 u1 u2 : Value) (hp : R ≠ Q) : Pg3 (((W.setCell ⟨Q, 0, none⟩ u0).setCell ⟨Q, 1, none⟩ u1).setCell ⟨Q, 2, none⟩ u2) R no g v := ((h.other ⟨Q, 0, none⟩ u0 hp).other ⟨Q, 1, none⟩ u1 hp).other ⟨Q, 2, none⟩ u2 hp
end
/-- slices.Clone of cells. -/
theorem clone_cls (a : Option Addr) (l : List (ByteArray × ByteArray)) (c : Nat) (W : World) (hl : l.length ≤ 1000) (ha : ClsAt W a l) (hz : a = none ∨ ∃ b off, a = some ⟨b, off, none⟩) :
    Calls Tryz.prog 73 #[.slice a l.length c] W fun x w' => ∃ a' c', x = .returned (.slice a' l.length c') ∧ RowC w' W.heap.size (.slice a' l.length c') l ∧ Below W.heap.size W w' := by
  rcases hz with rfl | ⟨b, off, rfl⟩
  · have hn : l = [] := by
      rcases ha with h | ⟨b, off, e, _⟩
      · exact h
      · cases e
    subst hn
    refine (show Calls Tryz.prog 73 #[.slice none 0 c] W _ from AnyE.slices_Clone_nil Tryz.cloneA 0 c W).mono ?_
    rintro x w' ⟨rfl, rfl⟩
    exact ⟨none, 0, rfl, World.ownsRow_nil _ _ _ _, Below.refl _ _⟩
  · obtain ⟨i0, hi, hzz⟩ := Option.map_eq_some_iff.1 infoC
    simp only [Prod.mk.injEq] at hzz
    obtain ⟨hz0, hz1, hz2⟩ := hzz
    have hc : ∀ j u, (clsC l)[j]? = some u → W.cell? ⟨b, off + j, none⟩ = some u := fun j u hj => by
      have hjl : j < l.length * 2 := by
        have := (List.getElem?_eq_some_iff.1 hj).1
        rw [clsC_len] at this; exact this
      rcases ha with h | ⟨bb, off2, e, hcs⟩
      · subst h; cases hj
      · cases e
        obtain ⟨g1, g2⟩ := clsC_get l (j / 2) (by omega)
        obtain ⟨k1, k2⟩ := hcs (j / 2) (by omega)
        rcases Nat.mod_two_eq_zero_or_one j with hp | hp
        · have e1 : j / 2 * 2 = j := by omega
          rw [e1] at g1 k1
          rw [hj] at g1
          rw [k1]; exact g1.symm
        · have e1 : j / 2 * 2 + 1 = j := by omega
          rw [e1] at g2
          rw [Nat.add_assoc, e1] at k2
          rw [hj] at g2
          rw [k2]; exact g2.symm
    have h := AnyE.slices_Clone Tryz.cloneA i0 _ 2 32 hi hz0 hz1 hz2 rfl (by decide) Tryz.sizeOf89 b off l.length c (clsC l) W (clsC_len l) (by unfold maxLen; omega) (by omega) hc (cls_one l)
    refine (show Calls Tryz.prog 73 #[.slice (some ⟨b, off, none⟩) l.length c] W _ from h).mono ?_
    rintro x w' ⟨v, rfl, hrow, hne, hb⟩
    have hr : RowC w' W.heap.size v l := hrow
    obtain ⟨a', c', rfl, _⟩ := hr.cls
    exact ⟨a', c', rfl, hr, hb⟩
theorem RowC.spot {W : World} {B c n : Nat} {a : Option Addr} {l : List (ByteArray × ByteArray)} (h : RowC W B (.slice a n c) l) : a = none ∨ ∃ b off, a = some ⟨b, off, none⟩ := by
  rcases h.2 with ⟨hv, _⟩ | ⟨g, cap, cur, hv, _⟩
  · injection hv with hv; exact .inl hv
  · injection hv with hv; exact .inr ⟨g, 0, hv⟩
/-- What own answers. -/
def OwnP (W : World) (no g : Int) (l : List (ByteArray × ByteArray)) (x : Ending) (w' : World) : Prop := ∃ a' c', x = .returned (.agg #[.int .i64 no, .int .i64 g, .slice a' l.length c']) ∧ RowC w' W.heap.size (.slice a' l.length c') l ∧ Below W.heap.size W w'
set_option maxRecDepth 100000 in
set_option maxHeartbeats 2000000 in
theorem own_any (no g : Int) (a : Option Addr) (l : List (ByteArray × ByteArray)) (c : Nat) (W : World) (hl : l.length ≤ 1000) (ha : ClsAt W a l) (hz : a = none ∨ ∃ b off, a = some ⟨b, off, none⟩) :
    Calls Tryz.prog 40 #[.agg #[.int .i64 no, .int .i64 g, .slice a l.length c]] W (OwnP W no g l) := by
  have hb1 := (Below.refl W.heap.size W).alloc (Nat.le_refl _) (.cells #[.int .i64 no, .int .i64 g, .slice a l.length c] 36)
  have hb2 := hb1.alloc hb1.size (.cells #[.int .i64 0, .int .i64 0, .slice none 0 0] 36)
  have hP := (Pg3.new W 36 no g (.slice a l.length c) []).below ((Below.refl _ _).alloc (Nat.le_refl _) (.cells #[.int .i64 0, .int .i64 0, .slice none 0 0] 36))
  have hR := Pg3.new (W.alloc (.cells #[.int .i64 no, .int .i64 g, .slice a l.length c] 36)) 36 0 0 (.slice none 0 0) []
  have hs1 : (W.alloc (.cells #[.int .i64 no, .int .i64 g, .slice a l.length c] 36)).heap.size = W.heap.size + 1 := by simp
  rw [hs1] at hR
  have KC := Lib.hid (fun (X : World) (hX : Below W.heap.size W X) => clone_cls a l c X hl (ha.below hX) hz)
  have HL : Hid (l.length ≤ 1000) := hl
  obtain ⟨n, hn⟩ : ∃ n, n = l.length := ⟨_, rfl⟩
  have HN := Lib.hid hn
  rw [← hn] at hb1 hb2 hP hR KC ⊢
  clear hs1 ha hz hl hn
  go_enter Tryz.func40, Tryz.ntmps40
  go_upto_region 1 with fail
  generalize (W.alloc (.cells #[.int .i64 no, .int .i64 g, .slice a n c] 36)).alloc (.cells #[.int .i64 0, .int .i64 0, .slice none 0 0] 36) = X at *
  have KC1 := Lib.hid (KC.out X hb2)
  have hp2 := hP.p2
  have HP := Lib.hid hP
  have HR := Lib.hid hR
  have HB := Lib.hid hb2
  clear KC hP hR hb1 hb2
  go_wp2_with fail
  refine KC1.out.mono ?_
  rintro x w1 ⟨a', c', rfl, hrow, hbw⟩
  have hP1 := HP.out.below hbw
  have hR1 := HR.out.below hbw
  have hx : W.heap.size + 1 < X.heap.size := HR.out.lt
  have HX := Lib.hid hx
  have hrow3 : RowC (w1.setCell ⟨W.heap.size, 2, none⟩ (.slice a' n c')) X.heap.size (.slice a' n c') l := World.ownsRow.kept hrow (grown_cell w1 W.heap.size 2 _) (by
    cases ho : (Value.slice a' n c').ownBlock with
    | none => exact .inl rfl
    | some k => exact .inr (fun e => by
        injection e with e
        have := (World.ownsRow.lt hrow k ho).1
        omega))
  have HB1 := Lib.hid (HB.out.trans (hbw.mono HB.out.size))
  clear hrow hbw hp2 HP HR HB KC1
  have hP2 := hP1.putV (.slice a' n c')
  have hR2 := hR1.other ⟨W.heap.size, 2, none⟩ (.slice a' n c') (by simp)
  have hb3 := HB1.out.setCell (p := ⟨W.heap.size, 2, none⟩) (Nat.le_refl _) (.slice a' n c')
  have hrw3 : RowC (w1.setCell ⟨W.heap.size, 2, none⟩ (.slice a' n c')) X.heap.size (.slice a' n c') l := hrow3
  have q2 := hP1.p2
  have qf := hP1.pf 2
  clear hrow3 HB1 HL
  have HB3 := Lib.hid hb3
  have HR3 := Lib.hid hrw3
  have HP2 := Lib.hid hP2
  have HR2 := Lib.hid hR2
  clear hb3 hrw3 hP2 hR2 hP1 hR1
  go_upto_region 2 with fail
  generalize w1.setCell ⟨W.heap.size, 2, none⟩ (.slice a' n c') = Y at *
  obtain ⟨p0, p1, p2, pf⟩ := HP2.out
  obtain ⟨r0, r1, r2, rf⟩ := HR2.out
  clear q2 qf
  go_wp2
  obtain ⟨Z, hZ, x0, x1, x2, hbZ, hgZ⟩ := set3 (B := W.heap.size) (v0 := .int .i64 no) (v1 := .int .i64 g) (v2 := .slice a' n c') HB3.out (by omega) r0 r1 r2
  rw [← hZ]
  have hrz : RowC Z X.heap.size (.slice a' n c') l := World.ownsRow.kept HR3.out hgZ (by
    cases ho : (Value.slice a' n c').ownBlock with
    | none => exact .inl rfl
    | some k => exact .inr (fun e => by
        injection e with e
        have h1 := (World.ownsRow.lt HR3.out k ho).1
        have h2 := HX.out
        omega))
  refine bodyPost_ret (v := .agg #[.int .i64 no, .int .i64 g, .slice a' n c']) ?_ rfl ⟨a', c', by rw [← HN.out], by rw [← HN.out]; exact hrz.base (by have := HX.out; omega), hbZ⟩
  simp [results, Tryz.results40, go_sem, x0, x1, x2]
end Go.Proofs.YtkemhkmabbladaaGreatDoor

namespace Go.Proofs.YtkemhkmabbladaaGreatDoor
open Go.RowKit
/-- A frame: its page, the value of its cells, the first record since, its pins. -/
structure FrD where
  g : Int
  v : Value
  l : List (ByteArray × ByteArray)
  first : Int
  pins : Int
def noFr : FrD := ⟨0, .slice none 0 0, [], 0, 0⟩
/-- A frame in block F. -/
structure FrIs (W : World) (F : Nat) (no : Int) (x : FrD) : Prop where
  p : Pg3 W F no x.g x.v
  f0 : W.cell? ⟨F, 3, none⟩ = some (.int .i64 x.first)
  f1 : W.cell? ⟨F, 4, none⟩ = some (.int .i64 x.pins)
  row : RowC W 0 x.v x.l
  sm : x.l.length ≤ 1000
theorem row_block {W X : World} {v : Value} {l : List (ByteArray × ByteArray)} (h : RowC W 0 v l) (hb : ∀ r, v.ownBlock = some r → X.heap[r]? = W.heap[r]?) : RowC X 0 v l := by
  obtain ⟨h1, h2⟩ := h
  refine ⟨h1, ?_⟩
  rcases h2 with h2 | ⟨g, cap, cur, hv, hg, hc, r⟩
  · exact .inl h2
  · exact .inr ⟨g, cap, cur, hv, hg, (hb g (by rw [hv]; rfl)).trans hc, r⟩
theorem FrIs.of_blocks {W X : World} {F : Nat} {no : Int} {x : FrD} (h : FrIs W F no x) (hF : X.heap[F]? = W.heap[F]?) (hr : ∀ r, x.v.ownBlock = some r → X.heap[r]? = W.heap[r]?) : FrIs X F no x :=
  ⟨h.p.of_block hF, (World.cell?_of_block (a := ⟨F, 3, none⟩) hF).trans h.f0, (World.cell?_of_block (a := ⟨F, 4, none⟩) hF).trans h.f1, row_block h.row hr, h.sm⟩
theorem row_lt {W : World} {v : Value} {l : List (ByteArray × ByteArray)} {B r : Nat} (h : RowC W B v l) (e : v.ownBlock = some r) : r < W.heap.size := (World.ownsRow.lt h r e).2
/-- A pool in memory. -/
structure PlS (w W : World) (D P L M n B T np : Nat) (now : Nat → Pg) (Q room MF k : Nat) (o : Int → Option Nat) (fv : Int → FrD) : Prop where
  tk : Tk w W D P L M n B T np now .on
  q0 : W.cell? ⟨Q, 0, none⟩ = some (.pointer (some ⟨T, 0, none⟩))
  q1 : W.cell? ⟨Q, 1, none⟩ = some (.int .i64 (room : Int))
  q2 : W.cell? ⟨Q, 2, none⟩ = some (.map (some MF))
  mp : FrAt W MF k o
  fr : ∀ i F, o i = some F → FrIs W F i (fv i)
  qs : Q ≠ P ∧ Q ≠ L ∧ Q ≠ M ∧ Q ≠ MF
  ms : MF ≠ P ∧ MF ≠ L ∧ MF ≠ M
  fs : ∀ i F, o i = some F → F ≠ P ∧ F ≠ L ∧ F ≠ M ∧ F ≠ Q ∧ F ≠ MF
  rs : ∀ i F r, o i = some F → (fv i).v.ownBlock = some r → (r ≠ P ∧ r ≠ L ∧ r ≠ M ∧ r ≠ Q ∧ r ≠ MF) ∧ ∀ j F', o j = some F' → r ≠ F'
  inj : ∀ i j F, o i = some F → o j = some F → i = j
  lo : w.heap.size ≤ Q ∧ w.heap.size ≤ MF ∧ ∀ i F, o i = some F → w.heap.size ≤ F
  keys : ∀ i, (o i).isSome = true → 0 ≤ i ∧ i < (np : Int)
section
variable {w W X : World} {D P L M n B T np Q room MF k : Nat} {now : Nat → Pg} {o : Int → Option Nat} {fv : Int → FrD}
theorem PlS.lts (h : PlS w W D P L M n B T np now Q room MF k o fv) : Q < W.heap.size ∧ MF < W.heap.size ∧ ∀ i F, o i = some F → F < W.heap.size :=
  ⟨Dv.block_lt h.q0, h.mp.lt, fun i F e => (h.fr i F e).p.lt⟩
theorem PlS.bw (h : PlS w W D P L M n B T np now Q room MF k o fv) : Below w.heap.size w W := h.tk.bw
/-- All that a pool has of its own stays, its device turns. -/
theorem PlS.turn {B' : Nat} {now' : Nat → Pg} (h : PlS w W D P L M n B T np now Q room MF k o fv) (ht : Tk w X D P L M n B' T np now' .on) (hb : ∀ b, b < W.heap.size → b ≠ P → b ≠ L → b ≠ M → X.heap[b]? = W.heap[b]?) : PlS w X D P L M n B' T np now' Q room MF k o fv := by
  obtain ⟨l1, l2, l3⟩ := h.lts
  have hQ := hb Q l1 h.qs.1 h.qs.2.1 h.qs.2.2.1
  exact { h with
    tk := ht
    q0 := (World.cell?_of_block (a := ⟨Q, 0, none⟩) hQ).trans h.q0
    q1 := (World.cell?_of_block (a := ⟨Q, 1, none⟩) hQ).trans h.q1
    q2 := (World.cell?_of_block (a := ⟨Q, 2, none⟩) hQ).trans h.q2
    mp := h.mp.of_block (hb MF l2 h.ms.1 h.ms.2.1 h.ms.2.2)
    fr := fun i F e => (h.fr i F e).of_blocks (hb F (l3 i F e) (h.fs i F e).1 (h.fs i F e).2.1 (h.fs i F e).2.2.1) (fun r hr => hb r (row_lt (h.fr i F e).row hr) (h.rs i F r e hr).1.1 (h.rs i F r e hr).1.2.1 (h.rs i F r e hr).1.2.2.1) }
theorem PlS.below (h : PlS w W D P L M n B T np now Q room MF k o fv) (hb : Below W.heap.size W X) : PlS w X D P L M n B T np now Q room MF k o fv :=
  h.turn (h.tk.below hb) (fun b hl _ _ _ => hb.block b hl)
theorem PlS.fr3 {B' : Nat} {now' : Nat → Pg} (h : PlS w W D P L M n B T np now Q room MF k o fv) (ht : Tk w X D P L M n B' T np now' .on) (hf : Dv.Fr3 P L M W X) : PlS w X D P L M n B' T np now' Q room MF k o fv :=
  h.turn ht (fun b hl h1 h2 h3 => hf.block b hl h1 h2 h3)
end
end Go.Proofs.YtkemhkmabbladaaGreatDoor

namespace Go.Proofs.YtkemhkmabbladaaGreatDoor
open Go.RowKit
theorem dev_write {W X : World} {D P L M n k b : Nat} {off : Bool} {uses : Int} {armed : Bool} {left : Int} {las : List (List UInt8)} {f : Int → Option (List UInt8)} (h : Dv.DevAt W D P L M n k off uses armed left las f) (hg : W.grownBy X (some b)) (h1 : b ≠ D) (h2 : b ≠ P) (h3 : b ≠ L) (h4 : b ≠ M) : Dv.DevAt X D P L M n k off uses armed left las f := by
  have key : ∀ c, c < W.heap.size → b ≠ c → X.heap[c]? = W.heap[c]? := fun c hc hx => hg.block c hc (by intro e; injection e with e; exact hx e.symm)
  have kD := key D (Dv.block_lt h.d0) h1
  have kP := key P (Dv.block_lt h.p0) h2
  exact { h with
    d0 := (World.cell?_of_block (a := ⟨D, 0, none⟩) kD).trans h.d0
    d1 := (World.cell?_of_block (a := ⟨D, 1, none⟩) kD).trans h.d1
    d2 := (World.cell?_of_block (a := ⟨D, 2, none⟩) kD).trans h.d2
    p0 := (World.cell?_of_block (a := ⟨P, 0, none⟩) kP).trans h.p0
    p1 := (World.cell?_of_block (a := ⟨P, 1, none⟩) kP).trans h.p1
    p2 := (World.cell?_of_block (a := ⟨P, 2, none⟩) kP).trans h.p2
    p3 := (World.cell?_of_block (a := ⟨P, 3, none⟩) kP).trans h.p3
    pf := fun i => (World.frozen?_of_block (a := ⟨P, i, none⟩) kP).trans (h.pf i)
    lb := (key L (Dv.blk_lt h.lb) h3).trans h.lb
    mp := h.mp.kept hg (by intro e; injection e with e; exact h4 e.symm) }
section
variable {w W X : World} {D P L M n B T np Q room MF k : Nat} {now : Nat → Pg} {o : Int → Option Nat} {fv : Int → FrD} {pm : Pm}
theorem Tk.write {b : Nat} (h : Tk w W D P L M n B T np now pm) (hg : W.grownBy X (some b)) (h1 : b ≠ D) (h2 : b ≠ P) (h3 : b ≠ L) (h4 : b ≠ M) (h5 : b ≠ T) (hl : w.heap.size ≤ b) : Tk w X D P L M n B T np now pm := by
  obtain ⟨s, h6, h7, h8⟩ := h
  obtain ⟨kk, off, uses, armed, left, las, hd, r⟩ := h6.d
  have key : ∀ c, c < W.heap.size → b ≠ c → X.heap[c]? = W.heap[c]? := fun c hc hx => hg.block c hc (by intro e; injection e with e; exact hx e.symm)
  have kT := key T (Dv.block_lt h6.t0) h5
  exact ⟨s, { h6 with
    d := ⟨kk, off, uses, armed, left, las, dev_write hd hg h1 h2 h3 h4, r⟩
    t0 := (World.cell?_of_block (a := ⟨T, 0, none⟩) kT).trans h6.t0
    t1 := (World.cell?_of_block (a := ⟨T, 1, none⟩) kT).trans h6.t1
    bw := h6.bw.grown hg h6.bw.size (fun k hk => by cases hk; exact hl) }, h7, h8⟩
theorem Tk.cells (h : Tk w W D P L M n B T np now pm) : (∃ v, W.cell? ⟨D, 0, none⟩ = some (.pointer v)) ∧ ∃ v, W.cell? ⟨T, 0, none⟩ = some (.pointer v) := by
  obtain ⟨s, h6, _⟩ := h
  exact ⟨⟨_, h6.d.d0⟩, ⟨_, h6.t0⟩⟩
/-- A frame's block is neither the device's nor the pages'. -/
theorem PlS.fne (h : PlS w W D P L M n B T np now Q room MF k o fv) {i : Int} {F : Nat} (e : o i = some F) : F ≠ D ∧ F ≠ T := by
  obtain ⟨⟨v1, h1⟩, ⟨v2, h2⟩⟩ := h.tk.cells
  have hp := (h.fr i F e).p.p0
  constructor
  · intro x; subst x; rw [h1] at hp; cases hp
  · intro x; subst x; rw [h2] at hp; cases hp
theorem map_ne {M' b : Nat} {k' : Nat} {o' : Int → Option Nat} {v : Value} (h : FrAt W M' k' o') (hc : W.cell? ⟨b, 0, none⟩ = some v) : M' ≠ b := by
  rintro rfl
  obtain ⟨D0, ⟨es, clock, hb, _⟩, _⟩ := h
  simp [World.cell?, hb] at hc
def updV (f : Int → FrD) (i : Int) (x : FrD) : Int → FrD := fun j => if j = i then x else f j
/-- A frame's block is written: what its new frame is, is told. -/
theorem PlS.put {no : Int} {F : Nat} {x : FrD} (h : PlS w W D P L M n B T np now Q room MF k o fv) (e : o no = some F) (hg : W.grownBy X (some F)) (hx : FrIs X F no x) (hr : x.v.ownBlock = (fv no).v.ownBlock ∨ ∀ r, x.v.ownBlock = some r → (r ≠ P ∧ r ≠ L ∧ r ≠ M ∧ r ≠ Q ∧ r ≠ MF) ∧ ∀ j F', o j = some F' → r ≠ F') :
    PlS w X D P L M n B T np now Q room MF k o (updV fv no x) := by
  obtain ⟨l1, l2, l3⟩ := h.lts
  obtain ⟨f1, f2, f3, f4, f5⟩ := h.fs no F e
  obtain ⟨f6, f7⟩ := h.fne e
  have key : ∀ c, c < W.heap.size → F ≠ c → X.heap[c]? = W.heap[c]? := fun c hc hx => hg.block c hc (by intro e; injection e with e; exact hx e.symm)
  have hQ := key Q l1 f4
  exact { h with
    tk := h.tk.write hg f6 f1 f2 f3 f7 (h.lo.2.2 no F e)
    q0 := (World.cell?_of_block (a := ⟨Q, 0, none⟩) hQ).trans h.q0
    q1 := (World.cell?_of_block (a := ⟨Q, 1, none⟩) hQ).trans h.q1
    q2 := (World.cell?_of_block (a := ⟨Q, 2, none⟩) hQ).trans h.q2
    mp := h.mp.of_block (key MF l2 f5)
    fr := fun i F' e' => by
      unfold updV
      by_cases hi : i = no
      · subst hi
        rw [if_pos rfl]
        rw [e] at e'; injection e' with e'; subst e'
        exact hx
      · rw [if_neg hi]
        have hne : F ≠ F' := fun q => hi (h.inj i no F' e' (q ▸ e))
        exact (h.fr i F' e').of_blocks (key F' (l3 i F' e') hne) (fun r hr => key r (row_lt (h.fr i F' e').row hr) (fun q => (h.rs i F' r e' hr).2 no F e q.symm))
    rs := fun i F' r e' hr' => by
      unfold updV at hr'
      by_cases hi : i = no
      · subst hi
        rw [if_pos rfl] at hr'
        rcases hr with hr | hr
        · rw [hr] at hr'; exact h.rs i F' r e' hr'
        · exact hr r hr'
      · rw [if_neg hi] at hr'; exact h.rs i F' r e' hr' }
/-- A frame more. -/
theorem PlS.new {no : Int} {F k' : Nat} {x : FrD} (h : PlS w W D P L M n B T np now Q room MF k o fv) (hn : o no = none) (hg : W.grownBy X (some MF)) (hm : FrAt X MF k' (updF o no (some F))) (hF : FrIs W F no x) (hb : w.heap.size ≤ F) (hk : 0 ≤ no ∧ no < (np : Int))
    (h1 : F ≠ P ∧ F ≠ L ∧ F ≠ M ∧ F ≠ Q) (h2 : ∀ i, o i ≠ some F) (hr : ∀ r, x.v.ownBlock = some r → r ≠ P ∧ r ≠ L ∧ r ≠ M ∧ r ≠ Q ∧ r ≠ F ∧ ∀ j F', o j = some F' → r ≠ F') (hr2 : ∀ i F' r, o i = some F' → (fv i).v.ownBlock = some r → r ≠ F) : PlS w X D P L M n B T np now Q room MF k' (updF o no (some F)) (updV fv no x) := by
  obtain ⟨l1, l2, l3⟩ := h.lts
  obtain ⟨⟨v1, c1⟩, ⟨v2, c2⟩⟩ := h.tk.cells
  have mD := map_ne h.mp c1
  have mT := map_ne h.mp c2
  have mF := map_ne h.mp hF.p.p0
  have key : ∀ c, c < W.heap.size → MF ≠ c → X.heap[c]? = W.heap[c]? := fun c hc hx => hg.block c hc (by intro e; injection e with e; exact hx e.symm)
  have hQ := key Q l1 (fun e => h.qs.2.2.2 e.symm)
  have row_ne : ∀ {r : Nat} {y : FrD}, RowC W 0 y.v y.l → y.v.ownBlock = some r → MF ≠ r := fun {r y} hrow hr q => by
    subst q
    rcases hrow.2 with ⟨hv, _⟩ | ⟨g, cap, cur, hv, _, hc, _⟩
    · rw [hv] at hr; cases hr
    · rw [hv] at hr
      have : g = MF := by simpa [Value.ownBlock] using hr
      subst this
      obtain ⟨D0, ⟨es, clock, hb, _⟩, _⟩ := h.mp
      rw [hc] at hb; cases hb
  have hcase : ∀ i F', updF o no (some F) i = some F' → (i = no ∧ F' = F) ∨ (i ≠ no ∧ o i = some F') := fun i F' e => by
    unfold updF at e; split at e
    · rename_i q; injection e with e; exact .inl ⟨q, e.symm⟩
    · rename_i q; exact .inr ⟨q, e⟩
  exact { h with
    tk := h.tk.write hg mD h.ms.1 h.ms.2.1 h.ms.2.2 mT h.lo.2.1
    q0 := (World.cell?_of_block (a := ⟨Q, 0, none⟩) hQ).trans h.q0
    q1 := (World.cell?_of_block (a := ⟨Q, 1, none⟩) hQ).trans h.q1
    q2 := (World.cell?_of_block (a := ⟨Q, 2, none⟩) hQ).trans h.q2
    mp := hm
    fr := fun i F' e' => by
      unfold updV
      rcases hcase i F' e' with ⟨rfl, rfl⟩ | ⟨hi, e⟩
      · rw [if_pos rfl]
        exact hF.of_blocks (key F' hF.p.lt mF) (fun r q => key r (row_lt hF.row q) (row_ne hF.row q))
      · rw [if_neg hi]
        exact (h.fr i F' e).of_blocks (key F' (l3 i F' e) (fun q => (h.fs i F' e).2.2.2.2 q.symm)) (fun r q => key r (row_lt (h.fr i F' e).row q) (row_ne (h.fr i F' e).row q))
    fs := fun i F' e' => by
      rcases hcase i F' e' with ⟨rfl, rfl⟩ | ⟨hi, e⟩
      · exact ⟨h1.1, h1.2.1, h1.2.2.1, h1.2.2.2, fun q => mF q.symm⟩
      · exact h.fs i F' e
    rs := fun i F' r e' hr' => by
      unfold updV at hr'
      rcases hcase i F' e' with ⟨rfl, rfl⟩ | ⟨hi, e⟩
      · rw [if_pos rfl] at hr'
        obtain ⟨a1, a2, a3, a4, a5, a6⟩ := hr r hr'
        refine ⟨⟨a1, a2, a3, a4, fun q => row_ne hF.row hr' q.symm⟩, fun j F'' q => ?_⟩
        rcases hcase j F'' q with ⟨_, rfl⟩ | ⟨_, q⟩
        · exact a5
        · exact a6 j F'' q
      · rw [if_neg hi] at hr'
        refine ⟨(h.rs i F' r e hr').1, fun j F'' q => ?_⟩
        rcases hcase j F'' q with ⟨_, rfl⟩ | ⟨_, q⟩
        · exact hr2 i F' r e hr'
        · exact (h.rs i F' r e hr').2 j F'' q
    inj := fun i j F' e1 e2 => by
      rcases hcase i F' e1 with ⟨rfl, rfl⟩ | ⟨q1, e1⟩ <;> rcases hcase j _ e2 with ⟨q3, q4⟩ | ⟨q2, e2⟩
      · exact q3.symm
      · exact absurd e2 (h2 j)
      · rw [q4] at e1; exact absurd e1 (h2 i)
      · exact h.inj i j F' e1 e2
    lo := ⟨h.lo.1, h.lo.2.1, fun i F' e' => by
      rcases hcase i F' e' with ⟨rfl, rfl⟩ | ⟨_, e⟩
      · exact hb
      · exact h.lo.2.2 i F' e⟩
    keys := fun i e' => by
      unfold updF at e'; split at e'
      · rename_i q; rw [q]; exact hk
      · exact h.keys i e' }
/-- A block that is none of a pool's is written. -/
theorem PlS.other {b : Nat} (h : PlS w W D P L M n B T np now Q room MF k o fv) (hg : W.grownBy X (some b)) (hne : b ≠ P ∧ b ≠ L ∧ b ≠ M) (hc : ∃ z, W.cell? ⟨b, 0, none⟩ = some (.int .i64 z)) (hF : ∀ i F, o i = some F → F ≠ b) (hr : ∀ i F r, o i = some F → (fv i).v.ownBlock = some r → r ≠ b) (hl : w.heap.size ≤ b) : PlS w X D P L M n B T np now Q room MF k o fv := by
  obtain ⟨l1, l2, l3⟩ := h.lts
  obtain ⟨⟨v1, c1⟩, ⟨v2, c2⟩⟩ := h.tk.cells
  obtain ⟨z, hz⟩ := hc
  have nD : b ≠ D := by rintro rfl; rw [c1] at hz; cases hz
  have nT : b ≠ T := by rintro rfl; rw [c2] at hz; cases hz
  have nQ : b ≠ Q := by rintro rfl; have := h.q0; rw [this] at hz; cases hz
  have nM := map_ne h.mp hz
  have key : ∀ c, c < W.heap.size → b ≠ c → X.heap[c]? = W.heap[c]? := fun c hc hx => hg.block c hc (by intro e; injection e with e; exact hx e.symm)
  have hQ := key Q l1 nQ
  exact { h with
    tk := h.tk.write hg nD hne.1 hne.2.1 hne.2.2 nT hl
    q0 := (World.cell?_of_block (a := ⟨Q, 0, none⟩) hQ).trans h.q0
    q1 := (World.cell?_of_block (a := ⟨Q, 1, none⟩) hQ).trans h.q1
    q2 := (World.cell?_of_block (a := ⟨Q, 2, none⟩) hQ).trans h.q2
    mp := h.mp.of_block (key MF l2 (fun e => nM e.symm))
    fr := fun i F e => (h.fr i F e).of_blocks (key F (l3 i F e) (fun q => hF i F e q.symm)) (fun r hr' => key r (row_lt (h.fr i F e).row hr') (fun q => hr i F r e hr' q.symm)) }
end
end Go.Proofs.YtkemhkmabbladaaGreatDoor

namespace Go.Proofs.YtkemhkmabbladaaGreatDoor
open Go.RowKit
theorem new_nil (room : Int) (W : World) : Calls Tryz.prog 20 #[.pointer none, .int .i64 room] W fun x w' => x = .returned (.pointer none) ∧ W = w' := by
  go_enter Tryz.func20, Tryz.ntmps20
  go_wp2
  go_ret
  exact ⟨rfl, rfl⟩
theorem new_small (T : Nat) (room : Int) (h : room < 1) (W : World) : Calls Tryz.prog 20 #[.pointer (some ⟨T, 0, none⟩), .int .i64 room] W fun x w' => x = .returned (.pointer none) ∧ W = w' := by
  go_enter Tryz.func20, Tryz.ntmps20
  go_wp2
  go_ret
  exact ⟨rfl, rfl⟩
theorem new_raw (T : Nat) (room : Nat) (h : 1 ≤ room) (W : World) : Calls Tryz.prog 20 #[.pointer (some ⟨T, 0, none⟩), .int .i64 (room : Int)] W fun x w' => x = .returned (.pointer (some ⟨W.heap.size + 1, 0, none⟩)) ∧ w' = (W.alloc (.map #[] 0)).alloc (.cells #[.pointer (some ⟨T, 0, none⟩), .int .i64 (room : Int), .map (some W.heap.size)] 58) := by
  have hmm := @run_makeMap Tryz.prog
  have h1 : ¬ (room : Int) < 1 := by omega
  go_enter Tryz.func20, Tryz.ntmps20
  go_wp2
  go_ret
  exact ⟨rfl, rfl⟩
section
variable {w W X : World} {D P L M n B T np Q room MF k : Nat} {now : Nat → Pg} {o : Int → Option Nat} {fv : Int → FrD}
/-- A new pool. -/
theorem pool_new (h : Tk w W D P L M n B T np now .on) (room : Nat) (hr : 1 ≤ room) : Calls Tryz.prog 20 #[.pointer (some ⟨T, 0, none⟩), .int .i64 (room : Int)] W fun x w' => ∃ Q MF, x = .returned (.pointer (some ⟨Q, 0, none⟩)) ∧ PlS w w' D P L M n B T np now Q room MF 0 (fun _ => none) (fun _ => noFr) ∧ Below W.heap.size W w' := by
  refine (new_raw T room hr W).mono ?_
  rintro x w' ⟨rfl, rfl⟩
  have hb1 := (Below.refl W.heap.size W).alloc (Nat.le_refl _) (.map #[] 0)
  have hb2 := hb1.alloc hb1.size (.cells #[.pointer (some ⟨T, 0, none⟩), .int .i64 (room : Int), .map (some W.heap.size)] 58)
  have hs1 : (W.alloc (.map #[] 0)).heap.size = W.heap.size + 1 := by simp
  obtain ⟨l1, l2, l3⟩ := h.lts
  have hw := h.bw.size
  have hm := (FrAt.made W).of_block (((Below.refl _ _).alloc (Nat.le_refl _) (.cells #[.pointer (some ⟨T, 0, none⟩), .int .i64 (room : Int), .map (some W.heap.size)] 58)).block W.heap.size (by rw [hs1]; omega))
  refine ⟨W.heap.size + 1, W.heap.size, rfl, ?_, hb2⟩
  exact {
    tk := h.below hb2
    q0 := Dv.new_cell hs1.symm rfl
    q1 := Dv.new_cell hs1.symm rfl
    q2 := Dv.new_cell hs1.symm rfl
    mp := hm
    fr := fun i F e => by cases e
    qs := ⟨by omega, by omega, by omega, by omega⟩
    ms := ⟨by omega, by omega, by omega⟩
    fs := fun i F e => by cases e
    rs := fun i F r e => by cases e
    inj := fun i j F e => by cases e
    lo := ⟨by omega, hw, fun i F e => by cases e⟩
    keys := fun i e => by cases e }
/-- Whether a frame is dirty. -/
theorem dirty_any (h : PlS w W D P L M n B T np now Q room MF k o fv) {i : Int} {F : Nat} (e : o i = some F) : Calls Tryz.prog 46 #[.pointer (some ⟨F, 0, none⟩)] W fun x w' => x = .returned (.bool (decide (0 < (fv i).first))) ∧ W = w' := by
  have f0 := (h.fr i F e).f0
  clear h e
  generalize (fv i).first = z at *
  go_enter Tryz.func46, Tryz.ntmps46
  go_wp2
  go_ret
  exact ⟨rfl, rfl⟩
end
/-! ### no pool -/
theorem get_nil (no : Int) (W : World) : Calls Tryz.prog 13 #[.pointer none, .int .i64 no] W (Pg0 W 1) := by
  have HR0 := Lib.hid (tkR_new W 36)
  go_enter Tryz.func13, Tryz.ntmps13
  go_upto_region 1 with fail
  generalize W.alloc (.cells #[.int .i64 0, .int .i64 0, .slice none 0 0] 36) = X0 at *
  obtain ⟨r0, r1, r2, rf, bw⟩ := HR0.out
  go_wp2
  obtain ⟨X, hX, x0, x1, x2, hbX, _⟩ := set3 (v0 := .int .i64 0) (v1 := .int .i64 0) (v2 := .slice none 0 0) bw (Nat.le_refl _) r0 r1 r2
  rw [← hX]
  refine bodyPost_ret (v := .tuple #[.agg #[.int .i64 0, .int .i64 0, .slice none 0 0], .int .i64 1]) ?_ rfl ⟨rfl, hbX⟩
  simp [results, Tryz.results13, go_sem, x0, x1, x2]
theorem each_nil (a : Option Addr) (m c : Nat) (f : Value) (W : World) : Calls Tryz.prog 42 #[.pointer none, .slice a m c, f] W fun x w' => x = .returned (.int .i64 1) ∧ W = w' := by
  go_enter Tryz.func42, Tryz.ntmps42
  go_wp2
  go_ret
  exact ⟨rfl, rfl⟩
theorem held_nil (W : World) : Calls Tryz.prog 32 #[.pointer none] W fun x w' => x = .returned (.slice none 0 0) ∧ W = w' := by
  go_enter Tryz.func32, Tryz.ntmps32
  go_wp2
  go_ret
  exact ⟨rfl, rfl⟩
theorem len_nil (W : World) : Calls Tryz.prog 33 #[.pointer none] W fun x w' => x = .returned (.int .i64 0) ∧ W = w' := by
  go_enter Tryz.func33, Tryz.ntmps33
  go_wp2
  go_ret
  exact ⟨rfl, rfl⟩
theorem dirtyL_nil (W : World) : Calls Tryz.prog 29 #[.pointer none] W fun x w' => x = .returned (.slice none 0 0) ∧ W = w' := by
  have KH := Lib.hid (held_nil W)
  go_enter Tryz.func29, Tryz.ntmps29
  go_wp2_with fail
  refine KH.out.mono ?_
  rintro x w1 ⟨rfl, rfl⟩
  go_wp2
  go_loop [3, 10] (fun l i => l = .slice none 0 0 ∧ i = .int .i64 0) (fun _ _ => 0)
  case atStart => exact ⟨rfl, rfl⟩
  case round =>
    obtain ⟨rfl, rfl⟩ := hrel
    go_wp2
    go_ret
    exact ⟨rfl, rfl⟩
theorem nums_nil (W : World) : Calls Tryz.prog 47 #[.pointer none] W fun x w' => x = .returned (.slice none 0 0) ∧ W = w' := by
  have KH := Lib.hid (dirtyL_nil W)
  go_enter Tryz.func47, Tryz.ntmps47
  go_wp2_with fail
  refine KH.out.mono ?_
  rintro x w1 ⟨rfl, rfl⟩
  go_wp2
  go_loop [3, 9] (fun l i => l = .slice none 0 0 ∧ i = .int .i64 0) (fun _ _ => 0)
  case atStart => exact ⟨rfl, rfl⟩
  case round =>
    obtain ⟨rfl, rfl⟩ := hrel
    go_wp2
    go_ret
    exact ⟨rfl, rfl⟩
theorem oldest_nil (W : World) : Calls Tryz.prog 30 #[.pointer none] W fun x w' => x = .returned (.tuple #[.int .i64 0, .bool false]) ∧ W = w' := by
  have KH := Lib.hid (dirtyL_nil W)
  go_enter Tryz.func30, Tryz.ntmps30
  go_wp2_with fail
  refine KH.out.mono ?_
  rintro x w1 ⟨rfl, rfl⟩
  go_wp2
  go_loop [4, 5, 11] (fun a b i => a = .int .i64 0 ∧ b = .bool false ∧ i = .int .i64 0) (fun _ _ _ => 0)
  case atStart => exact ⟨rfl, rfl, rfl⟩
  case round =>
    obtain ⟨rfl, rfl, rfl⟩ := hrel
    go_wp2
    exact bodyPost_ret (v := .tuple #[.int .i64 0, .bool false]) (by simp [results, Tryz.results30, go_sem]) rfl ⟨rfl, rfl⟩
theorem pin_nil (a : Option Addr) (m c : Nat) (W : World) : Calls Tryz.prog 25 #[.pointer none, .slice a m c] W fun x w' => x = .returned (.int .i64 1) ∧ W = w' := by
  have KE := Lib.hid (fun f W => each_nil a m c f W)
  go_enter Tryz.func25, Tryz.ntmps25
  go_wp2_with fail
  refine (KE.out _ _).mono ?_
  rintro x w1 ⟨rfl, rfl⟩
  go_wp2
  go_ret
  exact ⟨rfl, rfl⟩
theorem unpin_nil (a : Option Addr) (m c : Nat) (W : World) : Calls Tryz.prog 27 #[.pointer none, .slice a m c] W fun x w' => x = .returned (.int .i64 1) ∧ W = w' := by
  have KE := Lib.hid (fun f W => each_nil a m c f W)
  go_enter Tryz.func27, Tryz.ntmps27
  go_wp2_with fail
  refine (KE.out _ _).mono ?_
  rintro x w1 ⟨rfl, rfl⟩
  go_wp2
  go_ret
  exact ⟨rfl, rfl⟩
theorem evict_nil (a : Option Addr) (m c : Nat) (W : World) : Calls Tryz.prog 16 #[.pointer none, .slice a m c] W fun x w' => x = .returned (.int .i64 1) ∧ Below W.heap.size W w' := by
  have KE := Lib.hid (fun f W => each_nil a m c f W)
  have hb1 := (Below.refl W.heap.size W).alloc (Nat.le_refl _) (.cells #[.pointer none] 25)
  have p0 : (W.alloc (.cells #[.pointer none] 25)).cell? ⟨W.heap.size, 0, none⟩ = some (.pointer none) := Dv.new_cell rfl rfl
  go_enter Tryz.func16, Tryz.ntmps16
  go_upto_region 1 with fail
  generalize W.alloc (.cells #[.pointer none] 25) = X at *
  go_wp2_with fail
  refine (KE.out _ _).mono ?_
  rintro x w1 ⟨rfl, rfl⟩
  go_wp2
  go_ret
  exact ⟨rfl, hb1⟩
theorem change_nil (no g gsn : Int) (a : Option Addr) (m c : Nat) (W : World) : Calls Tryz.prog 14 #[.pointer none, .agg #[.int .i64 no, .int .i64 g, .slice a m c], .int .i64 gsn] W fun x w' => x = .returned (.int .i64 1) ∧ Below W.heap.size W w' := by
  have KE := Lib.hid (fun a m c f W => each_nil a m c f W)
  have hb1 := (Below.refl W.heap.size W).alloc (Nat.le_refl _) (.cells #[.int .i64 no, .int .i64 g, .slice a m c] 36)
  have hb2 := hb1.alloc hb1.size (.cells #[.int .i64 gsn] 3)
  have p0 : ((W.alloc (.cells #[.int .i64 no, .int .i64 g, .slice a m c] 36)).alloc (.cells #[.int .i64 gsn] 3)).cell? ⟨W.heap.size, 0, none⟩ = some (.int .i64 no) := Dv.keep_cell ((Below.refl _ _).alloc (Nat.le_refl _) _) (Dv.new_cell rfl rfl)
  go_enter Tryz.func14, Tryz.ntmps14
  go_upto_region 1 with fail
  generalize (W.alloc (.cells #[.int .i64 no, .int .i64 g, .slice a m c] 36)).alloc (.cells #[.int .i64 gsn] 3) = X at *
  go_wp2_with fail
  refine (KE.out _ _ _ _ _).mono ?_
  rintro x w1 ⟨rfl, rfl⟩
  have hb3 := hb2.alloc hb2.size (.cells #[.int .i64 no] 3)
  go_wp2
  go_ret
  exact ⟨rfl, hb3⟩
theorem flush_nil (hz : Int) (W : World) : Calls Tryz.prog 15 #[.pointer none, .int .i64 hz, .slice none 0 0] W fun x w' => x = .returned (.tuple #[.int .i64 0, .int .i64 1]) ∧ Below W.heap.size W w' := by
  have KE := Lib.hid (fun a m c f W => each_nil a m c f W)
  have KN := Lib.hid (fun W => nums_nil W)
  have hb1 := (Below.refl W.heap.size W).alloc (Nat.le_refl _) (.cells #[.pointer none] 25)
  have hb2 := hb1.alloc hb1.size (.cells #[.int .i64 hz] 3)
  have p0 : ((W.alloc (.cells #[.pointer none] 25)).alloc (.cells #[.int .i64 hz] 3)).cell? ⟨W.heap.size, 0, none⟩ = some (.pointer none) := Dv.keep_cell ((Below.refl _ _).alloc (Nat.le_refl _) _) (Dv.new_cell rfl rfl)
  go_enter Tryz.func15, Tryz.ntmps15
  go_upto_region 1 with fail
  generalize (W.alloc (.cells #[.pointer none] 25)).alloc (.cells #[.int .i64 hz] 3) = X at *
  go_wp2_with fail
  refine (KN.out _).mono ?_
  rintro x w1 ⟨rfl, rfl⟩
  have hb3 := hb2.alloc hb2.size (.cells #[.int .i64 0] 3)
  have p1 : (X.alloc (.cells #[.int .i64 0] 3)).cell? ⟨W.heap.size, 0, none⟩ = some (.pointer none) := Dv.keep_cell ((Below.refl _ _).alloc (Nat.le_refl _) _) p0
  have p2 : (X.alloc (.cells #[.int .i64 0] 3)).cell? ⟨X.heap.size, 0, none⟩ = some (.int .i64 0) := Dv.new_cell rfl rfl
  go_upto_region 4 with fail
  generalize X.alloc (.cells #[.int .i64 0] 3) = Y at *
  go_wp2_with fail
  refine (KE.out _ _ _ _ _).mono ?_
  rintro x w1 ⟨rfl, rfl⟩
  go_wp2
  exact bodyPost_ret (v := .tuple #[.int .i64 0, .int .i64 1]) (by simp [results, Tryz.results15, go_sem]) rfl ⟨rfl, hb3⟩
end Go.Proofs.YtkemhkmabbladaaGreatDoor

namespace Go.Proofs.YtkemhkmabbladaaGreatDoor
open Go.RowKit Go.Maps Go.ChangeMaps Go.MapKept Go.WideElems
section
variable {w W X : World} {D P L M n B T np Q room MF k : Nat} {now : Nat → Pg} {o : Int → Option Nat} {fv : Int → FrD}
theorem row_form {W : World} {B : Nat} {v : Value} {l : List (ByteArray × ByteArray)} (h : RowC W B v l) : ∃ a c, v = .slice a l.length c ∧ ClsAt W a l ∧ (a = none ∨ ∃ b off, a = some ⟨b, off, none⟩) := by
  obtain ⟨a, c, rfl, h2, _⟩ := h.cls
  exact ⟨a, c, rfl, h2, h.spot⟩
/-- What Get answers. -/
def GetP (W : World) (no g : Int) (l : List (ByteArray × ByteArray)) (x : Ending) (w' : World) : Prop := ∃ a' c', x = .returned (.tuple #[.agg #[.int .i64 no, .int .i64 g, .slice a' l.length c'], .int .i64 0]) ∧ RowC w' W.heap.size (.slice a' l.length c') l
set_option maxRecDepth 100000 in
set_option maxHeartbeats 2000000 in
theorem get_hit (h : PlS w W D P L M n B T np now Q room MF k o fv) (no : Int) (hno : (Lit.int .i64 no).wf = true) {F : Nat} (e : o no = some F) :
    Calls Tryz.prog 13 #[.pointer (some ⟨Q, 0, none⟩), .int .i64 no] W fun x w' => GetP W no (fv no).g (fv no).l x w' ∧ PlS w w' D P L M n B T np now Q room MF k o fv ∧ Below W.heap.size W w' := by
  have hb0 := (Below.refl W.heap.size W).alloc (Nat.le_refl _) (.cells #[.int .i64 0, .int .i64 0, .slice none 0 0] 36)
  have HR0 := Lib.hid (tkR_new W 36)
  have h0 := h.below hb0
  have q2 := h0.q2
  have lk := h0.mp.lookOk no hno
  rw [e] at lk
  rw [show frV (some F) = Value.pointer (some ⟨F, 0, none⟩) from rfl, show (some F).isSome = true from rfl] at lk
  have hf := h0.fr no F e
  obtain ⟨a, c, hv, hcl, hsp⟩ := row_form hf.row
  have p0 := hf.p.p0
  have p1 := hf.p.p1
  have p2 := hf.p.p2
  rw [hv] at p2
  have KO := Lib.hid (own_any no (fv no).g a (fv no).l c _ hf.sm hcl hsp)
  have HH := Lib.hid h
  obtain ⟨g, hg⟩ : ∃ g, g = (fv no).g := ⟨_, rfl⟩
  obtain ⟨l, hl⟩ : ∃ l, l = (fv no).l := ⟨_, rfl⟩
  rw [← hg] at p1 KO
  rw [← hl] at p2 KO
  rw [← hg, ← hl]
  clear h h0 hf hv hcl hsp hg hl e hno
  go_enter Tryz.func13, Tryz.ntmps13
  go_upto_region 1 with fail
  generalize W.alloc (.cells #[.int .i64 0, .int .i64 0, .slice none 0 0] 36) = X0 at *
  have HX0 : Hid (W.heap.size < X0.heap.size) := Dv.block_lt HR0.out.r0
  go_wp2_with fail
  refine KO.out.mono ?_
  rintro x w1 ⟨a', c', rfl, hrow, hb1⟩
  obtain ⟨r0, r1, r2, rf, bw⟩ := HR0.out.below hb1
  have HRW := Lib.hid hrow
  clear hrow hb1 KO p0 p1 p2 q2 lk
  go_wp2
  obtain ⟨Z, hZ, x0, x1, x2, hbZ, hgZ⟩ := set3 (v0 := .int .i64 no) (v1 := .int .i64 g) (v2 := .slice a' l.length c') bw (Nat.le_refl _) r0 r1 r2
  rw [← hZ]
  have hlt2 : W.heap.size < X0.heap.size := HX0.out
  have hrz : RowC Z X0.heap.size (.slice a' l.length c') l := World.ownsRow.kept HRW.out hgZ (by
    cases ho : (Value.slice a' l.length c').ownBlock with
    | none => exact .inl rfl
    | some k => exact .inr (fun e => by
        injection e with e
        have h1 := (World.ownsRow.lt HRW.out k ho).1
        omega))
  refine bodyPost_ret (v := .tuple #[.agg #[.int .i64 no, .int .i64 g, .slice a' l.length c'], .int .i64 0]) ?_ rfl ⟨⟨a', c', rfl, hrz.base (by omega)⟩, HH.out.below hbZ, hbZ⟩
  simp [results, Tryz.results13, go_sem, x0, x1, x2]
theorem FrAt.lens {W : World} {M n : Nat} {o : Int → Option Nat} (h : FrAt W M n o) :
    ∃ c : Nat, c ≤ n ∧ ∀ (W' : World) ty, W'.heap[M]? = W.heap[M]? → (Builtin.len_ #[56] ty #[.map (some M)]).run Tryz.prog W' = .ok (.int .i64 (c : Int)) W' := by
  obtain ⟨D, h1, _⟩ := h
  refine ⟨size D, h1.size_le, fun W' ty hb' => ?_⟩
  obtain ⟨es, clock, hb, F, hs, hD⟩ := h1
  exact World.ownsMap.len (P := Tryz.prog) (w := W') (b := M) (n := n) (D := D) ⟨es, clock, hb'.trans hb, F, hs, hD⟩ Tryz.underlying56 ty
theorem room_yes (h : PlS w W D P L M n B T np now Q room MF k o fv) (hk : k < room) :
    Calls Tryz.prog 41 #[.pointer (some ⟨Q, 0, none⟩)] W fun x w' => x = .returned (.bool true) ∧ Below W.heap.size W w' := by
  obtain ⟨c, hc, hlen⟩ := h.mp.lens
  have q1 := h.q1
  have q2 := h.q2
  have hlen2 : ∀ q ty, (Builtin.len_ #[56] ty #[.map (some MF)]).run Tryz.prog (W.drewN q) = .ok (.int .i64 (c : Int)) (W.drewN q) := fun q ty => hlen _ ty rfl
  have hcr : (c : Int) < (room : Int) := by omega
  clear h
  go_enter Tryz.func41, Tryz.ntmps41
  go_wp2_with fail
  go_quiet (fail)
  go_wp2
  go_ret
  exact ⟨rfl, below_drewN (Below.refl _ _) _⟩
set_option maxRecDepth 100000 in
set_option maxHeartbeats 4000000 in
theorem get_new (h : PlS w W D P L M n B T np now Q room MF k o fv) (hk : k < room) (hkm : k ≤ 1000) (hn : n ≤ 4096) (hfit : 5 + 4 * np ≤ n) (no : Nat) (hno : no < np) (e : o (no : Int) = none) (hsm : (now no).2.length ≤ 1000) :
    Calls Tryz.prog 13 #[.pointer (some ⟨Q, 0, none⟩), .int .i64 (no : Int)] W fun x w' => GetP W no (now no).1 (now no).2 x w' ∧ (∃ F v, PlS w w' D P L M n B T np now Q room MF (k + 1) (updF o no (some F)) (updV fv no ⟨(now no).1, v, (now no).2, 0, 0⟩)) ∧ Below w.heap.size w w' := by
  have hb0 := (Below.refl W.heap.size W).alloc (Nat.le_refl _) (.cells #[.int .i64 0, .int .i64 0, .slice none 0 0] 36)
  have HR0 := Lib.hid (tkR_new W 36)
  have hwf : (Lit.int .i64 (no : Int)).wf = true := WalkArith.wf_i64 (by omega)
  have h0 := h.below hb0
  have q0 := h0.q0
  have q2 := h0.q2
  have lk := h0.mp.lookOk no hwf
  rw [e] at lk
  rw [show frV none = Value.pointer none from rfl, show (none : Option Nat).isSome = false from rfl] at lk
  have KP := Lib.hid (c_page h0.tk (by intro x; cases x) hn hfit no hno)
  have H0 := Lib.hid h0
  have HE := Lib.hid e
  have HB0 := Lib.hid hb0
  obtain ⟨g, hg⟩ : ∃ g, g = (now no).1 := ⟨_, rfl⟩
  obtain ⟨l, hl⟩ : ∃ l, l = (now no).2 := ⟨_, rfl⟩
  rw [← hg, ← hl] at KP
  rw [← hl] at hsm
  rw [← hg, ← hl]
  have LT : Hid (P < W.heap.size ∧ L < W.heap.size ∧ M < W.heap.size ∧ Q < W.heap.size ∧ (∀ i F, o i = some F → F < W.heap.size) ∧ (∀ i F r, o i = some F → (fv i).v.ownBlock = some r → r < W.heap.size) ∧ w.heap.size ≤ W.heap.size ∧ W.heap.size < (W.alloc (.cells #[.int .i64 0, .int .i64 0, .slice none 0 0] 36)).heap.size) := ⟨h.tk.lts.1, h.tk.lts.2.1, h.tk.lts.2.2, h.lts.1, h.lts.2.2, fun i F r e hr => row_lt (h.fr i F e).row hr, h.bw.size, by simp⟩
  clear h h0 e hg hl
  go_enter Tryz.func13, Tryz.ntmps13
  go_upto_region 1 with fail
  generalize W.alloc (.cells #[.int .i64 0, .int .i64 0, .slice none 0 0] 36) = X0 at *
  go_wp2_with fail
  refine KP.out.mono ?_
  rintro x w1 ⟨hg0, a, c, rfl, hrow, hb1⟩
  have HR1 := Lib.hid (HR0.out.below hb1)
  have H1 := Lib.hid (H0.out.below hb1)
  have HRW1 := Lib.hid hrow
  have HX1 := Lib.hid hb1
  clear KP HR0 H0 q0 q2 lk hrow hb1
  go_upto_region 7 with fail
  have hby := (Below.refl w1.heap.size w1).alloc (Nat.le_refl _) (.cells #[.int .i64 (no : Int), .int .i64 g, .slice a l.length c] 36)
  have HX := Lib.hid (Pg3.new w1 36 (no : Int) g (.slice a l.length c) [])
  have HR2 := Lib.hid (HR1.out.below hby)
  have H2 := Lib.hid (H1.out.below hby)
  have HRW2 := Lib.hid (HRW1.out.below hby)
  have HBY := Lib.hid (HX1.out.trans (hby.mono HX1.out.size))
  obtain ⟨XB, hXB⟩ : ∃ XB, XB = w1.heap.size := ⟨_, rfl⟩
  have HXB := Lib.hid hXB
  rw [← hXB] at HX ⊢
  clear hby HR1 H1 HRW1 HX1 hXB
  generalize w1.alloc (.cells #[.int .i64 (no : Int), .int .i64 g, .slice a l.length c] 36) = Y at *
  have KM := Lib.hid (room_yes H2.out hk)
  go_wp2_with fail
  refine KM.out.mono ?_
  rintro x w2 ⟨rfl, hb2⟩
  have HX3 := Lib.hid (HX.out.below hb2)
  have HR3 := Lib.hid (HR2.out.below hb2)
  have H3 := Lib.hid (H2.out.below hb2)
  have HRW3 := Lib.hid (HRW2.out.below hb2)
  have HB3 := Lib.hid (HBY.out.trans (hb2.mono HBY.out.size))
  clear hb2 HX HR2 H2 HRW2 HBY KM
  go_upto_region 11 with fail
  have q2 := H3.out.q2
  obtain ⟨p0, p1, p2, _⟩ := HX3.out
  have hba := (Below.refl w2.heap.size w2).alloc (Nat.le_refl _) (.cells #[.int .i64 (no : Int), .int .i64 g, .slice a l.length c, .int .i64 0, .int .i64 0] 94)
  have H4 := H3.out.below hba
  have hF := Pg3.new w2 94 (no : Int) g (.slice a l.length c) [.int .i64 0, .int .i64 0]
  have f3 : (w2.alloc (.cells #[.int .i64 (no : Int), .int .i64 g, .slice a l.length c, .int .i64 0, .int .i64 0] 94)).cell? ⟨w2.heap.size, 3, none⟩ = some (.int .i64 0) := Dv.new_cell rfl rfl
  have f4 : (w2.alloc (.cells #[.int .i64 (no : Int), .int .i64 g, .slice a l.length c, .int .i64 0, .int .i64 0] 94)).cell? ⟨w2.heap.size, 4, none⟩ = some (.int .i64 0) := Dv.new_cell rfl rfl
  have r4 := HRW3.out.below hba
  have e0 := Dv.keep_cell hba p0
  have e1 := Dv.keep_cell hba p1
  have e2 := Dv.keep_cell hba p2
  have eq2 := Dv.keep_cell hba q2
  obtain ⟨W5, hst, hm5, hg5, hz5⟩ := (FrAt.of_block (W' := (w2.alloc (.cells #[.int .i64 (no : Int), .int .i64 g, .slice a l.length c, .int .i64 0, .int .i64 0] 94)).drew) H4.mp rfl).store (no : Int) hwf w2.heap.size (by unfold maxLen; omega)
  clear H4 hF f3 f4 r4 hba hz5
  go_region
  obtain ⟨W4, hW4⟩ : ∃ W4, W4 = (w2.alloc (.cells #[.int .i64 (no : Int), .int .i64 g, .slice a l.length c, .int .i64 0, .int .i64 0] 94)).drew := ⟨_, rfl⟩
  have hb4 : Below w2.heap.size w2 W4 := by rw [hW4]; exact ((Below.refl _ _).alloc (Nat.le_refl _) _).drew
  have hfr : FrIs W4 w2.heap.size (no : Int) ⟨g, .slice a l.length c, l, 0, 0⟩ := by
    rw [hW4]
    exact ⟨⟨Dv.new_cell rfl rfl, Dv.new_cell rfl rfl, Dv.new_cell rfl rfl, fun _ => World.frozen?_alloc_at _ _ _ _ rfl⟩, Dv.new_cell rfl rfl, Dv.new_cell rfl rfl, ((HRW3.out.below ((Below.refl _ _).alloc (Nat.le_refl _) _)).base (Nat.zero_le _)), hsm⟩
  have h4 : PlS w W4 D P L M n B T np now Q room MF k o fv := H3.out.below hb4
  rw [← hW4] at hst hg5
  obtain ⟨s1, s2, s3, s4, s5, s7, s8, s6⟩ := LT.out
  have hz2 : X0.heap.size ≤ w2.heap.size := HB3.out.size
  have hrow : ∀ r, (Value.slice a l.length c).ownBlock = some r → X0.heap.size ≤ r ∧ r < w2.heap.size := fun r hr => World.ownsRow.lt HRW3.out r hr
  have h5 := h4.new HE.out hg5 hm5 hfr H3.out.bw.size ⟨by omega, by omega⟩ ⟨by omega, by omega, by omega, by omega⟩ (fun i e => by have := s5 i _ e; omega)
    (fun r hr => by
      have := hrow r hr
      exact ⟨by omega, by omega, by omega, by omega, by omega, fun j F' e => by have := s5 j F' e; omega⟩)
    (fun i F' r e hr => by have := row_lt (H3.out.fr i F' e).row hr; omega)
  have hx5 : Pg3 W5 XB (no : Int) g (.slice a l.length c) := (HX3.out.below hb4).of_block (hg5.block XB (HX3.out.below hb4).lt (fun e => map_ne h4.mp (HX3.out.below hb4).p0 (by injection e with e; exact e.symm)))
  have hr5 : TkR W W4 := HR3.out.below hb4
  have hbk5 : W5.heap[W.heap.size]? = W4.heap[W.heap.size]? := hg5.block W.heap.size (Dv.block_lt hr5.r0) (fun e => map_ne h4.mp hr5.r0 (by injection e with e; exact e.symm))
  have r50 := (World.cell?_of_block (a := ⟨W.heap.size, 0, none⟩) hbk5).trans hr5.r0
  have r51 := (World.cell?_of_block (a := ⟨W.heap.size, 1, none⟩) hbk5).trans hr5.r1
  have r52 := (World.cell?_of_block (a := ⟨W.heap.size, 2, none⟩) hbk5).trans hr5.r2
  have r5f : ∀ i, W5.frozen? ⟨W.heap.size, i, none⟩ = false := fun i => (World.frozen?_of_block (a := ⟨W.heap.size, i, none⟩) hbk5).trans (hr5.rf i)
  have hcl5 := row_form ((h5.fr (no : Int) w2.heap.size (by unfold updF; rw [if_pos rfl])).row)
  obtain ⟨p0, p1, p2, _⟩ := hx5
  have KO : Hid (Calls Tryz.prog 40 #[.agg #[.int .i64 (no : Int), .int .i64 g, .slice a l.length c]] W5 (OwnP W5 no g l)) := by
    have hv : (updV fv (no : Int) ⟨g, .slice a l.length c, l, 0, 0⟩ (no : Int)) = ⟨g, .slice a l.length c, l, 0, 0⟩ := by unfold updV; rw [if_pos rfl]
    rw [hv] at hcl5
    obtain ⟨a2, c2, hv2, hc2, hs2⟩ := hcl5
    injection hv2 with e1 _ e3
    subst e1 e3
    exact own_any no g a l c W5 hsm hc2 hs2
  have H5 := Lib.hid h5
  have LF : Hid (W.heap.size < w2.heap.size) := by rw [Hid]; omega
  have LG : Hid (W.heap.size < W5.heap.size) := by
    have q1 := hg5.size
    have q2 := hb4.size
    rw [Hid]; omega
  have HROW := Lib.hid hrow
  clear hst hm5 hg5 h5 h4 hfr hb4 hW4 e0 e1 e2 eq2 q2 hcl5 hbk5 hr5 HR3 HRW3 HX3 H3 hb0 HB0 hrow s1 s2 s3 s4 s5 s6 s7 s8
  go_wp2_with fail
  refine KO.out.mono ?_
  rintro x w6 ⟨a', c', rfl, hrow, hb6⟩
  have H6 := Lib.hid (H5.out.below hb6)
  have HR6 := Lib.hid hrow
  have r60 := Dv.keep_cell hb6 r50
  have r61 := Dv.keep_cell hb6 r51
  have r62 := Dv.keep_cell hb6 r52
  have r6f : ∀ i, w6.frozen? ⟨W.heap.size, i, none⟩ = false := fun i => (hb6.frozen (p := ⟨W.heap.size, i, none⟩) (show W.heap.size < W5.heap.size from Dv.block_lt r50)).trans (r5f i)
  clear r50 r51 r52 r5f hrow hb6 p0 p1 p2 H5 KO
  go_wp2
  obtain ⟨Z, hZ, x0, x1, x2, _, hgZ⟩ := set3 (B := 0) (v0 := .int .i64 (no : Int)) (v1 := .int .i64 g) (v2 := .slice a' l.length c') (Below.refl 0 w6) (Nat.zero_le _) r60 r61 r62
  rw [← hZ]
  obtain ⟨s1, s2, s3, s4, s5, s7, s8, s6⟩ := LT.out
  have hLF := LF.out
  have hLG := LG.out
  have hzz : PlS w Z D P L M n B T np now Q room MF (k + 1) (updF o (no : Int) (some w2.heap.size)) (updV fv (no : Int) ⟨g, .slice a l.length c, l, 0, 0⟩) := H6.out.other hgZ ⟨by omega, by omega, by omega⟩ ⟨_, r60⟩ (fun i F e => by
      unfold updF at e; split at e
      · injection e with e; omega
      · have := s5 i F e; omega) (fun i F r e hr => by
      unfold updV at hr; unfold updF at e
      by_cases hi : i = (no : Int)
      · rw [if_pos hi] at hr; have := HROW.out r hr; omega
      · rw [if_neg hi] at hr e; have := s7 i F r e hr; omega) s8
  have hrz : RowC Z W5.heap.size (.slice a' l.length c') l := World.ownsRow.kept HR6.out hgZ (by
    cases ho : (Value.slice a' l.length c').ownBlock with
    | none => exact .inl rfl
    | some k => exact .inr (fun e => by
        injection e with e
        have h1 := (World.ownsRow.lt HR6.out k ho).1
        omega))
  refine bodyPost_ret (v := .tuple #[.agg #[.int .i64 (no : Int), .int .i64 g, .slice a' l.length c'], .int .i64 0]) ?_ rfl ⟨⟨a', c', rfl, hrz.base (by omega)⟩, ⟨_, _, hzz⟩, hzz.bw⟩
  simp [results, Tryz.results13, go_sem, x0, x1, x2]
end
end Go.Proofs.YtkemhkmabbladaaGreatDoor

namespace Go.Proofs.YtkemhkmabbladaaGreatDoor
open Go.RowKit Go.Maps Go.Sort Go.Shelf
/-- slices.Sort's two contracts at this translation, at the fence that asks nothing. -/
theorem pl_sortsA (m : Nat) : AnyZI.SortsIn Tryz.prog Tryz.sortedA_ren Fence.wide m :=
  ⟨fun blk off cap ss W hH hblk hsz => callsIn_wide.2 (AnyM.slices_Sort_int Tryz.sortA blk off cap ss W hH hblk hsz),
   fun p cap W => callsIn_wide.2 (AnyM.slices_Sort_int_none Tryz.sortA p cap W)⟩
set_option maxHeartbeats 1000000 in
/-- The keys of a map of frames, sorted. -/
theorem held_map {W : World} {Q MF k : Nat} (q2 : W.cell? ⟨Q, 2, none⟩ = some (.map (some MF))) (D0 : DataW Unit) (hown : W.ownsMap Tryz.prog 3 (frR (H := Unit)) MF k D0) (hsz : Maps.size D0 ≤ 10000) :
    Calls Tryz.prog 32 #[.pointer (some ⟨Q, 0, none⟩)] W fun e w' => ∃ (v : Value) (ss : List Int), e = .returned v ∧ ss.Perm (intKeys D0) ∧
      w'.ownsRow W.heap.size 3 1 v ss.length ((ss.mergeSort (fun x y => decide (x ≤ y))).map encZ) ∧ (v = .slice none 0 0 ↔ ss = []) ∧ Below W.heap.size W w' := by
  refine (callsIn_wide (n := 6)).1 ?_
  have hbl := hown.lt
  have hseq : SeqGives Fence.wide 2 Tryz.prog 84 #[.pointer (some ⟨W.heap.size, 0, none⟩)] encZ (fun ss => ss.Perm (intKeys D0)) (Maps.size D0) (W.alloc (.cells #[.map (some MF)] 56)) :=
    AnyZI.keys_gives (ρ := Tryz.keysA_ren) { Tryz.keysA with } Fence.wide _ trivial rfl (by omega) W.heap.size MF k D0 _ (by simp) (by simp) (by
      obtain ⟨es, clock, hb, Ft, hs, hD⟩ := hown
      exact ⟨es, clock, (Below.heap_alloc _ _ MF hbl).trans hb, Ft, hs, hD⟩)
  have cK : ∀ mb W, CallsIn Fence.wide 5 Tryz.prog 64 #[.map mb] W fun e w' => e = .returned (.func (.func 84) #[] #[.pointer (some ⟨W.heap.size, 0, none⟩)]) ∧ w' = W.alloc (.cells #[.map mb] 56) := fun mb W => AnyZI.keys_in Tryz.keysA Fence.wide 5 trivial rfl mb W
  have cS := AnyZI.sorted_in Tryz.sortedA Fence.wide 5 trivial trivial trivial trivial rfl (by omega) (pl_sortsA _) (enters_of Tryz.func83 (by kernel_rfl) rfl) 84 #[.pointer (some ⟨W.heap.size, 0, none⟩)] trivial (enters_of Tryz.func84 (by kernel_rfl) rfl) _ _ (by unfold maxLen; omega) (by omega) _ hseq
  change CallsIn _ _ Tryz.prog 63 _ _ _ at cS
  have hfK : Fence.wide.fn 64 := trivial
  have hfS : Fence.wide.fn 63 := trivial
  refine callsIn_of_wp Tryz.func32 rfl trivial ?_ rfl
  simp only [Tryz.ntmps32, List.size_toArray, List.length_cons, List.length_nil, Nat.reduceAdd, Nat.reduceSub, Array.replicate_succ, Array.replicate_zero, List.push_toArray, List.append_toArray, List.nil_append, List.cons_append]
  gi_wp2_with (first
    | (gi_at_call 64; refine (cK _ _).mono ?_; rintro e w' ⟨rfl, rfl⟩)
    | (gi_at_call 63; refine cS.mono ?_; rintro e w' ⟨v, ss, rfl, hS, hrow, hnil, hb⟩))
  go_ret
  exact ⟨v, ss, rfl, hS, ownsRow_base_a hrow (by simp), hnil, ((Below.refl _ W).alloc (Nat.le_refl _) _).trans (hb.mono (by simp))⟩
/-- Numbers in rising cells. -/
def IRow (W : World) (a : Option Addr) (ks : List Int) : Prop := ks = [] ∨ ∃ b off, a = some ⟨b, off, none⟩ ∧ ∀ i, i < ks.length → W.cell? ⟨b, off + i, none⟩ = some (.int .i64 (ks.getD i 0))
theorem IRow.below {W X : World} {a : Option Addr} {ks : List Int} (h : IRow W a ks) (hb : Below W.heap.size W X) : IRow X a ks := by
  rcases h with h | ⟨b, off, e, h⟩
  · exact .inl h
  · exact .inr ⟨b, off, e, fun i hi => Dv.keep_cell hb (h i hi)⟩
theorem irow_of_owns {W : World} {B : Nat} {v : Value} {l : List Int} (h : W.ownsRow B 3 1 v l.length (l.map encZ)) : ∃ a c, v = .slice a l.length c ∧ IRow W a l ∧ ∀ b off, a = some ⟨b, off, none⟩ → B ≤ b := by
  rcases h.2 with ⟨hv, h0⟩ | ⟨g, c, cur, hv, hg, _⟩
  · exact ⟨none, 0, by rw [hv, h0], .inl (List.length_eq_zero_iff.1 h0), fun b off e => by cases e⟩
  · subst hv
    refine ⟨_, c, rfl, .inr ⟨g, 0, rfl, fun i hi => ?_⟩, fun b off e => by injection e with e; injection e with e; omega⟩
    rw [Nat.zero_add, World.ownsRow.cellAt h i (by omega), List.getElem?_map, List.getD_eq_getElem?_getD, List.getElem?_eq_getElem hi]; rfl
section
variable {w W X : World} {D P L M n B T np Q room MF k : Nat} {now : Nat → Pg} {o : Int → Option Nat} {fv : Int → FrD}
/-- Which keys a pool has, rising. -/
structure KeysOf (o : Int → Option Nat) (ks : List Int) : Prop where
  rise : ks.Pairwise (· < ·)
  mem : ∀ i, i ∈ ks ↔ (o i).isSome = true
  few : ks.length ≤ 1000
theorem held_any (h : PlS w W D P L M n B T np now Q room MF k o fv) {ks : List Int} (hk : KeysOf o ks) :
    Calls Tryz.prog 32 #[.pointer (some ⟨Q, 0, none⟩)] W fun x w' => ∃ a c, x = .returned (.slice a ks.length c) ∧ IRow w' a ks ∧ (∀ b off, a = some ⟨b, off, none⟩ → W.heap.size ≤ b) ∧ Below W.heap.size W w' := by
  obtain ⟨D0, hown, _, hhas⟩ := h.mp
  have hnd : ks.Nodup := hk.rise.imp (fun hab e => by omega)
  have hp : ks.Perm (intKeys D0) := CollectedI.perm (D0 := D0) (left := fun _ => false) ⟨hnd, fun x => by rw [hk.mem x, hhas x]; simp⟩ hown pl_key Tryz.underlying3 (fun _ => rfl)
  have hsz : Maps.size D0 ≤ 10000 := by
    obtain ⟨es, rfl, _⟩ := hown.keysOf
    have h1 := hp.length_eq
    have h2 : (intKeys (DataW.map es)).length = es.length := by simp [intKeys]
    rw [size_eq]
    have := hk.few
    omega
  refine (held_map h.q2 D0 hown hsz).mono ?_
  rintro x w' ⟨v, ss, rfl, hss, hrow, _, hb⟩
  have he : ss.mergeSort (fun x y => decide (x ≤ y)) = ks := by
    have h1 : ss.mergeSort leI = ks.mergeSort leI := mergeSort_of_perm_i (hss.trans hp.symm)
    have h2 : ks.mergeSort leI = ks := List.mergeSort_of_pairwise (hk.rise.imp (fun {a b} hab => by simp only [leI, decide_eq_true_eq]; omega))
    exact h1.trans h2
  have hl : ss.length = ks.length := (hss.trans hp.symm).length_eq
  rw [he, hl] at hrow
  obtain ⟨a, c, rfl, h1, h2⟩ := irow_of_owns hrow
  exact ⟨a, c, rfl, h1, h2, hb⟩
end
/-- What comes of a list of numbers, one by one, up to the first error. -/
def eachR {St : Type} (R : Int → St → Int × St) (has : St → Int → Bool) : List Int → St → Int × St
  | [], s => (0, s)
  | x :: r, s => if has s x = true then (if (R x s).1 = 0 then eachR R has r (R x s).2 else R x s) else (7, s)
set_option maxRecDepth 100000 in
set_option maxHeartbeats 2000000 in
theorem each_any {St : Type} (R : Int → St → Int × St) (ob : St → Int → Option Nat) (Inv : St → World → Prop) (Q MF : Nat) (cf : FuncId) (caps : Array Value) (a : Option Addr) (ks : List Int) (c : Nat) (s0 : St) (W : World) (h0 : Inv s0 W) (hl : ks.length ≤ 1000) (hw : ∀ x ∈ ks, (Lit.int .i64 x).wf = true) (eg : ∀ args w, (callFunc cf args).run Tryz.prog w = .ok (.enter cf args) w)
    (hq : ∀ s W', Inv s W' → W'.cell? ⟨Q, 2, none⟩ = some (.map (some MF)) ∧ (∃ k, FrAt W' MF k (ob s)) ∧ IRow W' a ks)
    (hcall : ∀ s W' x F, Inv s W' → x ∈ ks → ob s x = some F → Calls Tryz.prog cf (#[.pointer (some ⟨F, 0, none⟩)] ++ caps) W' fun e w' => e = .returned (.int .i64 (R x s).1) ∧ Inv (R x s).2 w') :
    Calls Tryz.prog 42 #[.pointer (some ⟨Q, 0, none⟩), .slice a ks.length c, .func (.func cf) #[] caps] W fun e w' => e = .returned (.int .i64 (eachR R (fun s x => (ob s x).isSome) ks s0).1) ∧ Inv (eachR R (fun s x => (ob s x).isSome) ks s0).2 w' := by
  obtain ⟨O, hO⟩ : ∃ O, eachR R (fun s x => (ob s x).isSome) ks s0 = O := ⟨_, rfl⟩
  rw [hO]
  have HO : Hid (eachR R (fun s x => (ob s x).isSome) (ks.drop 0) s0 = O) := hO
  have H0 := Lib.hid h0
  have HW := Lib.hid hw
  have HQ := Lib.hid hq
  have HC := Lib.hid hcall
  clear hO h0 hw hq hcall
  go_enter Tryz.func42, Tryz.ntmps42
  go_wp2
  go_loopw [16] (fun i wr => ∃ (j : Nat) (s : St), j ≤ ks.length ∧ i = .int .i64 j ∧ Hid (eachR R (fun s x => (ob s x).isSome) (ks.drop j) s = O) ∧ Hid (Inv s wr)) (fun i _ => ks.length - (intOf i).toNat)
  case atStart => exact ⟨0, s0, Nat.zero_le _, rfl, HO, H0⟩
  case round =>
    obtain ⟨j, s, hj, rfl, HE, HS⟩ := hrel
    rename World => wr
    clear HO H0
    by_cases hlt : j < ks.length
    · obtain ⟨q2, ⟨kk, hm⟩, hrow⟩ := HQ.out s wr HS.out
      rcases hrow with hnil | ⟨b, off, rfl, hcs⟩
      · rw [hnil] at hlt; exact absurd hlt (Nat.not_lt_zero _)
      have hc := hcs j hlt
      obtain ⟨x, hx⟩ : ∃ x, x = ks.getD j 0 := ⟨_, rfl⟩
      have hmem : x ∈ ks := by rw [hx, List.getD_eq_getElem?_getD, List.getElem?_eq_getElem hlt]; exact List.getElem_mem hlt
      have hd : ks.drop j = x :: ks.drop (j + 1) := by rw [List.drop_eq_getElem_cons hlt, hx, List.getD_eq_getElem?_getD, List.getElem?_eq_getElem hlt]; rfl
      have hE := HE.out
      rw [hd] at hE
      rw [← hx] at hc
      have lk := hm.lookOk x (HW.out x hmem)
      have hlt' : (j : Int) < (ks.length : Int) := by omega
      unfold eachR at hE
      clear hm hcs hd hx
      cases ho : ob s x with
      | none =>
        rw [ho] at lk hE
        rw [show frV none = Value.pointer none from rfl, show (none : Option Nat).isSome = false from rfl] at lk
        rw [if_neg (by simp)] at hE
        have hE2 := Lib.hid hE
        clear hE ho
        go_wp2
        go_ret
        exact ⟨by rw [← hE2.out]; rfl, by rw [← hE2.out]; exact HS.out⟩
      | some F =>
        rw [ho] at lk hE
        rw [show frV (some F) = Value.pointer (some ⟨F, 0, none⟩) from rfl, show (some F).isSome = true from rfl] at lk
        rw [if_pos (by simp)] at hE
        have KC := Lib.hid (HC.out s wr x F HS.out hmem ho)
        clear ho
        by_cases he : (R x s).1 = 0
        · rw [if_pos he] at hE
          rw [he] at KC
          have hE2 := Lib.hid hE
          clear hE he hmem
          go_wp2_with (go_at_fn cf; refine KC.out.mono ?_; rintro e w2 ⟨rfl, hi⟩)
          have HI := Lib.hid hi
          clear hi KC lk q2 hc
          go_wp2
          go_roundw
          case rel => exact ⟨j + 1, _, by omega, by go_num, hE2, HI⟩
          case measure => simp [intOf]; omega
        · rw [if_neg he] at hE
          have hE2 := Lib.hid hE
          rw [hE] at KC he
          clear hE hmem
          go_wp2_with (go_at_fn cf; refine KC.out.mono ?_; rintro e w2 ⟨rfl, hi⟩)
          have HI := Lib.hid hi
          clear hi KC lk q2 hc
          go_wp2
          go_ret
          exact ⟨rfl, HI.out⟩
    · have hj1 : (ks.length : Int) ≤ (j : Int) := by omega
      have hE := HE.out
      rw [List.drop_of_length_le (by omega)] at hE
      have hE2 := Lib.hid hE
      clear hE
      go_wp2
      go_ret
      exact ⟨by rw [← hE2.out]; rfl, by rw [← hE2.out]; exact HS.out⟩
end Go.Proofs.YtkemhkmabbladaaGreatDoor
