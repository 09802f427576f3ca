/-
  THE CONTRACT OF a known transaction's place: a range over slices.Backward.
-/
import Derived.Test.YtophbefmlfieeaaTxBack1
namespace Go.Proofs.Ytophbefmlfieeaa
open Go.RowKit Go.Shelf
attribute [local go_sem] Oper.semAt_some
theorem PlcR.slice {W : World} {B : Nat} {v : Value} {l : List Plc} (h : PlcR W B v l) : ∃ a c, v = .slice a l.length c := by
  rcases h.form with ⟨e, e2⟩ | ⟨g, c, e, _⟩
  · exact ⟨none, 0, by rw [e, e2]; rfl⟩
  · exact ⟨_, c, e⟩
/-- The result's cells. -/
structure PcR (W : World) (q : Nat) (no a b : Int) (y : Bool) : Prop where
  c0 : W.cell? ⟨q, 0, none⟩ = some (.int .i64 no)
  c1 : W.cell? ⟨q + 1, 0, none⟩ = some (.int .i64 a)
  c2 : W.cell? ⟨q + 1, 1, none⟩ = some (.int .i64 b)
  c3 : W.cell? ⟨q + 2, 0, none⟩ = some (.bool y)
  f1 : ∀ i, W.frozen? ⟨q + 1, i, none⟩ = false
  f3 : W.frozen? ⟨q + 2, 0, none⟩ = false
theorem PcR.kept {W X : World} {q : Nat} {no a b : Int} {y : Bool} (h : PcR W q no a b y) (hk : ∀ p v, W.cell? p = some v → X.cell? p = some v) (hf : ∀ p v, W.cell? p = some v → X.frozen? p = W.frozen? p) (hF : ∀ i, X.frozen? ⟨q + 1, i, none⟩ = false) : PcR X q no a b y :=
  ⟨hk _ _ h.c0, hk _ _ h.c1, hk _ _ h.c2, hk _ _ h.c3, hF, (hf _ _ h.c3).trans h.f3⟩
theorem PcR.own {W X : World} {q : Nat} {no a b : Int} {y : Bool} {row : Option Nat} (h : PcR W q no a b y) (hg : W.grownBy X row) (hr : ∀ r, row = some r → ∃ o, W.heap[r]? = some o ∧ o.isCells = false) : PcR X q no a b y :=
  ⟨cell_kept h.c0 hg hr, cell_kept h.c1 hg hr, cell_kept h.c2 hg hr, cell_kept h.c3 hg hr, fun i => by
    obtain ⟨o, ho, hc⟩ := cells_of_cell h.c1
    exact (World.frozen?_of_block (a := ⟨q + 1, i, none⟩) (grownBy_keeps_cells hg hr ho hc)).trans (h.f1 i), (frozen_kept h.c3 hg hr).trans h.f3⟩
theorem PcR.below {W X : World} {q : Nat} {no a b : Int} {y : Bool} (h : PcR W q no a b y) (hb : Below W.heap.size W X) : PcR X q no a b y :=
  ⟨keep_cell hb h.c0, keep_cell hb h.c1, keep_cell hb h.c2, keep_cell hb h.c3, fun i => (hb.frozen (p := ⟨q + 1, i, none⟩) (show q + 1 < W.heap.size from block_lt (p := ⟨q + 1, 0, none⟩) h.c1)).trans (h.f1 i), (hb.frozen (p := ⟨q + 2, 0, none⟩) (show q + 2 < W.heap.size from block_lt (p := ⟨q + 2, 0, none⟩) h.c3)).trans h.f3⟩
theorem PcR.set3 {W : World} {q : Nat} {no a b : Int} {y : Bool} (h : PcR W q no a b y) (a' b' : Int) (y' : Bool) : PcR (((W.setCell ⟨q + 1, 0, none⟩ (.int .i64 a')).setCell ⟨q + 1, 1, none⟩ (.int .i64 b')).setCell ⟨q + 2, 0, none⟩ (.bool y')) q no a' b' y' := by
  have o : ∀ {X : World} {p r : Addr} {u v : Value}, X.cell? p = some v → r ≠ p → (X.setCell r u).cell? p = some v := fun hc hne => by rw [World.cell?_setCell_other _ _ _ _ hne]; exact hc
  have s : ∀ {X : World} {p : Addr} {u v : Value}, X.cell? p = some v → (X.setCell p u).cell? p = some u := fun hc => World.cell?_setCell_same _ _ _ hc
  have ne : ∀ {b1 b2 o1 o2 : Nat}, b1 ≠ b2 ∨ o1 ≠ o2 → (⟨b1, o1, none⟩ : Addr) ≠ ⟨b2, o2, none⟩ := fun hh e => by injection e with e1 e2; rcases hh with hh | hh; exact hh e1; exact hh e2
  exact ⟨o (o (o h.c0 (ne (.inl (by omega)))) (ne (.inl (by omega)))) (ne (.inl (by omega))), o (o (s h.c1) (ne (.inr (by omega)))) (ne (.inl (by omega))), o (s (o h.c2 (ne (.inr (by omega))))) (ne (.inl (by omega))), s (o (o h.c3 (ne (.inl (by omega)))) (ne (.inl (by omega)))), fun i => by rw [World.frozen?_setCell, World.frozen?_setCell, World.frozen?_setCell]; exact h.f1 i, by rw [World.frozen?_setCell, World.frozen?_setCell, World.frozen?_setCell]; exact h.f3⟩
set_option maxRecDepth 100000 in
set_option maxHeartbeats 4000000 in
theorem place_in (F : Fence) (n : Nat) (h4 : F.fn 31) (h6 : F.fn 52) (h8 : F.fn 68) (hro : F.round = none) (hn : 3 ≤ n)
    {w : World} {K : Nat} {a : Option Addr} {cap : Nat} (l : List Plc) (no : Int) (hl : l.length ≤ 100000) (k6 : w.cell? ⟨K, 6, none⟩ = some (.slice a l.length cap)) (hI : PlcsAt w.heap.size w (.slice a l.length cap) l) :
    CallsIn F n Try.prog 31 #[.pointer (some ⟨K, 0, none⟩), .int .i64 no] w fun e W' =>
      ((e = .returned (.tuple #[.agg #[.int .i64 0, .int .i64 0], .bool false]) ∧ ∀ j, j < l.length → (bk l j).2.1 ≠ no) ∨ (∃ k : Nat, k < l.length ∧ e = .returned (.tuple #[.agg #[.int .i64 (bk l k).2.1, .int .i64 (bk l k).2.2], .bool true]) ∧ (bk l k).2.1 = no ∧ ∀ j, j < k → (bk l j).2.1 ≠ no)) ∧ Below w.heap.size w W' := by
  have h1 : 1 ≤ n := by omega
  have hb1 := (Below.refl w.heap.size w).alloc (Nat.le_refl _) (.cells #[.int .i64 no] 3)
  have hb2 := hb1.alloc hb1.size (.cells #[.int .i64 0, .int .i64 0] 60)
  have hb3 := hb2.alloc hb2.size (.cells #[.bool false] 4)
  have k6' := hb3.cell (p := ⟨K, 6, none⟩) (block_lt (p := ⟨K, 6, none⟩) k6) |>.trans k6
  refine callsIn_of_wp_marks Try.func31 rfl h4 ?_ hro
  simp only [Try.ntmps31, List.size_toArray, List.length_cons, List.length_nil, Nat.reduceAdd, Nat.reduceSub, Array.replicate_succ, Array.replicate_zero, List.push_toArray, List.append_toArray, List.nil_append, List.cons_append]
  gi_wp2_with (gi_at_call 52; refine (back_in F (n - 1) h6 hro _ _ _ _).mono ?_; rintro e w' ⟨rfl, rfl⟩)
  have hp : PcR ((((w.alloc (.cells #[.int .i64 no] 3)).alloc (.cells #[.int .i64 0, .int .i64 0] 60)).alloc (.cells #[.bool false] 4)).alloc (.cells #[.slice a l.length cap] 54)) w.heap.size no 0 0 false := by
    have z1 : (w.alloc (.cells #[.int .i64 no] 3)).heap.size = w.heap.size + 1 := World.size_alloc _ _
    have z2 : ((w.alloc (.cells #[.int .i64 no] 3)).alloc (.cells #[.int .i64 0, .int .i64 0] 60)).heap.size = w.heap.size + 2 := by rw [World.size_alloc, z1]
    have z3 : (((w.alloc (.cells #[.int .i64 no] 3)).alloc (.cells #[.int .i64 0, .int .i64 0] 60)).alloc (.cells #[.bool false] 4)).heap.size = w.heap.size + 3 := by rw [World.size_alloc, z2]
    have x0 : (w.alloc (.cells #[.int .i64 no] 3)).cell? ⟨w.heap.size, 0, none⟩ = some (.int .i64 no) := new_cell rfl rfl
    have x1 : ((w.alloc (.cells #[.int .i64 no] 3)).alloc (.cells #[.int .i64 0, .int .i64 0] 60)).cell? ⟨w.heap.size + 1, 0, none⟩ = some (.int .i64 0) := new_cell z1.symm rfl
    have x2 : ((w.alloc (.cells #[.int .i64 no] 3)).alloc (.cells #[.int .i64 0, .int .i64 0] 60)).cell? ⟨w.heap.size + 1, 1, none⟩ = some (.int .i64 0) := new_cell z1.symm rfl
    have x3 : (((w.alloc (.cells #[.int .i64 no] 3)).alloc (.cells #[.int .i64 0, .int .i64 0] 60)).alloc (.cells #[.bool false] 4)).cell? ⟨w.heap.size + 2, 0, none⟩ = some (.bool false) := new_cell z2.symm rfl
    have f1 : ∀ i, ((w.alloc (.cells #[.int .i64 no] 3)).alloc (.cells #[.int .i64 0, .int .i64 0] 60)).frozen? ⟨w.heap.size + 1, i, none⟩ = false := fun i => World.frozen?_alloc_at _ _ _ _ z1.symm
    have f3 : (((w.alloc (.cells #[.int .i64 no] 3)).alloc (.cells #[.int .i64 0, .int .i64 0] 60)).alloc (.cells #[.bool false] 4)).frozen? ⟨w.heap.size + 2, 0, none⟩ = false := World.frozen?_alloc_at _ _ _ _ z2.symm
    have g := fun (X : World) (o : Obj) => (Below.refl X.heap.size X).alloc (Nat.le_refl _) o
    refine ⟨keep_cell (g _ _) (keep_cell (g _ _) (keep_cell (g _ _) x0)), keep_cell (g _ _) (keep_cell (g _ _) x1), keep_cell (g _ _) (keep_cell (g _ _) x2), keep_cell (g _ _) x3, fun i => ?_, ?_⟩
    · rw [(g _ _).frozen (show (⟨w.heap.size + 1, i, none⟩ : Addr).block < _ by rw [z3]; show w.heap.size + 1 < _; omega), (g _ _).frozen (show (⟨w.heap.size + 1, i, none⟩ : Addr).block < _ by rw [z2]; show w.heap.size + 1 < _; omega)]
      exact f1 i
    · rw [(g _ _).frozen (show (⟨w.heap.size + 2, 0, none⟩ : Addr).block < _ by rw [z3]; show w.heap.size + 2 < _; omega)]
      exact f3
  have hbx : ((((w.alloc (.cells #[.int .i64 no] 3)).alloc (.cells #[.int .i64 0, .int .i64 0] 60)).alloc (.cells #[.bool false] 4)).alloc (.cells #[.slice a l.length cap] 54)).cell? ⟨w.heap.size + 1 + 1 + 1, 0, none⟩ = some (.slice a l.length cap) := new_cell (by simp) rfl
  have hB0 := hb3.alloc hb3.size (.cells #[.slice a l.length cap] 54)
  have hsz : ((((w.alloc (.cells #[.int .i64 no] 3)).alloc (.cells #[.int .i64 0, .int .i64 0] 60)).alloc (.cells #[.bool false] 4)).alloc (.cells #[.slice a l.length cap] 54)).heap.size = w.heap.size + 4 := by simp
  clear hb1 hb2 hb3 k6' k6
  generalize (((w.alloc (.cells #[.int .i64 no] 3)).alloc (.cells #[.int .i64 0, .int .i64 0] 60)).alloc (.cells #[.bool false] 4)).alloc (.cells #[.slice a l.length cap] 54) = W0 at *
  have hps : PlcsAt W0.heap.size W0 (.slice a l.length cap) l := (hI.below hB0).imp id (fun ⟨b, c, e, hb, hc⟩ => ⟨b, c, e, by omega, hc⟩)
  refine wpIn_rangeFunc_ownH hro h1 (gf := 68) (lb := #[.pointer (some ⟨w.heap.size + 1 + 1 + 1, 0, none⟩)]) rfl h8 (enters_of Try.func68 (by kernel_rfl) rfl)
    (back_stops F (n - 1) h8 hro (by omega) (w.heap.size + 1 + 1 + 1) W0.heap.size _ l hl W0 (by omega) (Nat.le_refl _) hbx hps) belowK_t (belowK_b (Nat.le_refl _)) (Below.refl _ _) (fun _ => rfl)
    (fun pre W => ((∀ x ∈ pre, x.2.1 ≠ no) ∧ PcR W w.heap.size no 0 0 false ∧ W0.heap.size ≤ W.heap.size) ∧ Below w.heap.size w W)
    (fun c pre W => (c = .ret ∧ ∃ ini last, pre = ini ++ [last] ∧ (∀ x ∈ ini, x.2.1 ≠ no) ∧ last.2.1 = no ∧ PcR W w.heap.size no last.2.1 last.2.2 true) ∧ Below w.heap.size w W)
    (OwnFrom.and (Own.from (fun s A B row hs hg hr => ⟨hs.1, hs.2.1.own hg hr, Nat.le_trans hs.2.2 hg.size⟩) _) (ownFrom_below (Nat.le_refl _) (by omega)))
    (fun c => OwnFrom.and (Own.from (fun s A B row hs hg hr => by obtain ⟨hc, ini, last, e1, e2, e3, e4⟩ := hs; exact ⟨hc, ini, last, e1, e2, e3, e4.own hg hr⟩) _) (ownFrom_below (Nat.le_refl _) (by omega)))
    ⟨⟨by simp, hp, Nat.le_refl _⟩, hB0⟩
    (fun x a' W => ∃ Bx, w.heap.size + 2 < Bx ∧ (W.cell? ⟨Bx, 0, none⟩ = some (.int .i64 x.2.1) ∧ W.cell? ⟨Bx, 1, none⟩ = some (.int .i64 x.2.2)) ∧ a' = { tmps := #[.pointer (some ⟨K, 0, none⟩), .int .i64 no, undef, .pointer (some ⟨w.heap.size, 0, none⟩), .pointer (some ⟨w.heap.size + 1, 0, none⟩), .pointer (some ⟨w.heap.size + 1 + 1, 0, none⟩), undef, .pointer (some ⟨Bx, 0, none⟩), .pointer (some ⟨K, 0, none⟩), .pointer (some ⟨K, 0, none⟩), .pointer (some ⟨K, 0, none⟩), .pointer (some ⟨K, 6, none⟩), .slice a l.length cap, .func (.func 68) #[] #[.pointer (some ⟨w.heap.size + 1 + 1 + 1, 0, none⟩)], .int .i64 (x.1 : Int), .agg #[.int .i64 x.2.1, .int .i64 x.2.2], undef, undef, undef, undef, undef, undef], defers := [] })
    (fun x a' _ X Y row hs hg hr => by obtain ⟨Bx, h1, ⟨h2, h3⟩, h4⟩ := hs; exact ⟨Bx, h1, ⟨cell_kept h2 hg (fun r e => (hr r e).2), cell_kept h3 hg (fun r e => (hr r e).2)⟩, h4⟩)
    ?assign ?body ?done ?stop
  case assign =>
    rintro l2 pre x W K2 ⟨⟨hp1, hq1, hz1⟩, hB1⟩ hK
    clear hI hps hp hbx
    gi_wp2
    have hbw := (Below.refl W.heap.size W).alloc (Nat.le_refl _) (.cells #[.int .i64 x.2.1, .int .i64 x.2.2] 60)
    exact hK _ _ ((KeepsOthers.alloc _ _).from _) ((Below.refl _ W).alloc hz1 _) ⟨⟨hp1, hq1.below hbw, Nat.le_trans hz1 hbw.size⟩, hB1.alloc hB1.size _⟩ ⟨W.heap.size, block_lt (p := ⟨w.heap.size + 2, 0, none⟩) hq1.c3, ⟨new_cell rfl rfl, new_cell rfl rfl⟩, rfl⟩
  case body =>
    rintro l2 pre x a' W hlp ⟨r, hr⟩ ⟨⟨hp1, hq1, hz1⟩, hB1⟩ ⟨Bx, hBx, ⟨b0, b1⟩, rfl⟩ hlt
    obtain ⟨q0, q1, q2, q3, qf1, qf3⟩ := hq1
    have q3' : W.cell? ⟨w.heap.size + 1 + 1, 0, none⟩ = some (.bool false) := q3
    have qf3' : W.frozen? ⟨w.heap.size + 1 + 1, 0, none⟩ = false := qf3
    have HQ : Hid (PcR W w.heap.size no 0 0 false) := ⟨q0, q1, q2, q3, qf1, qf3⟩
    clear q3 qf3 hI hps hp hbx
    by_cases hx : x.2.1 = no
    · gi_wp2
      refine ⟨(((KeepsOthers.setCell _ _ _).trans ((KeepsOthers.setCell _ _ _).trans (KeepsOthers.setCell _ _ _)))).from _, ⟨rfl, pre, x, rfl, hp1, hx, by have := HQ.out.set3 no x.2.2 true; rw [hx]; exact this⟩, ((hB1.setCell (p := ⟨w.heap.size + 1, 0, none⟩) (by simp) _).setCell (p := ⟨w.heap.size + 1, 1, none⟩) (by simp) _).setCell (p := ⟨w.heap.size + 1 + 1, 0, none⟩) (show w.heap.size ≤ w.heap.size + 1 + 1 by omega) _⟩
    · gi_wp2
      exact ⟨KeepsFrom.refl _ _, Below.refl _ _, ⟨fun p hp' => (List.mem_append.1 hp').elim (hp1 p) (fun e => by simp at e; subst e; exact hx), HQ.out, hz1⟩, hB1⟩
  case done =>
    rintro D ys W hD rfl ⟨⟨hne, hq, hz⟩, hB⟩ hK
    clear hI hps hp hbx
    obtain ⟨q0, q1, q2, q3, qf1, qf3⟩ := hq
    have q3' : W.cell? ⟨w.heap.size + 1 + 1, 0, none⟩ = some (.bool false) := q3
    have qf3' : W.frozen? ⟨w.heap.size + 1 + 1, 0, none⟩ = false := qf3
    have HQ : Hid (PcR W w.heap.size no 0 0 false) := ⟨q0, q1, q2, q3, qf1, qf3⟩
    clear q3 qf3
    gi_wp2
    have hK' := ((KeepsOthers.setCell W ⟨w.heap.size + 1, 0, none⟩ (.int .i64 0)).trans ((KeepsOthers.setCell _ ⟨w.heap.size + 1, 1, none⟩ (.int .i64 0)).trans (KeepsOthers.setCell _ ⟨w.heap.size + 1 + 1, 0, none⟩ (.bool false)))).same D _ hK rfl
    have hR := (HQ.out.set3 0 0 false).own (grownBy_putObj' _ D (.deferred none)) (fun r e => by cases e; exact ⟨_, hK', rfl⟩)
    refine ⟨by simp, .inl ⟨_, _, rfl, run_takeDeferred hK', ?_⟩⟩
    obtain ⟨_, r1, r2, r3, _, _⟩ := hR
    have r3' := r3
    rw [show w.heap.size + 2 = w.heap.size + 1 + 1 from rfl] at r3'
    refine ⟨.tuple #[.agg #[.int .i64 0, .int .i64 0], .bool false], ?_, .inl ⟨rfl, fun j hj => hne (bk l j) (by simp only [upto, List.mem_map, List.mem_range]; exact ⟨j, hj, rfl⟩)⟩, (((hB.setCell (p := ⟨w.heap.size + 1, 0, none⟩) (by simp) _).setCell (p := ⟨w.heap.size + 1, 1, none⟩) (by simp) _).setCell (p := ⟨w.heap.size + 1 + 1, 0, none⟩) (show w.heap.size ≤ w.heap.size + 1 + 1 by omega) _).trans (belowK_b (w := w) (Nat.le_refl _) _ D _ _ (by omega) hK' rfl rfl)⟩
    simp [results, Try.results31, go_sem, r1, r2, r3']
  case stop =>
    rintro D c pre W hD ⟨k, hk, rfl⟩ ⟨⟨rfl, ini, last, e1, e2, e3, hq⟩, hB⟩ hK
    clear hI hps hp hbx
    gi_wp2
    refine ⟨by simp, .inl ⟨_, _, rfl, run_takeDeferred hK, ?_⟩⟩
    have hR := hq.own (grownBy_putObj' _ D (.deferred none)) (fun r e => by cases e; exact ⟨_, hK, rfl⟩)
    obtain ⟨_, r1, r2, r3, _, _⟩ := hR
    have r3' := r3
    rw [show w.heap.size + 2 = w.heap.size + 1 + 1 from rfl] at r3'
    obtain ⟨k', rfl⟩ : ∃ k', k = k' + 1 := by
      cases k with
      | zero => simp [upto] at e1
      | succ k' => exact ⟨k', rfl⟩
    rw [upto_succ] at e1
    obtain ⟨rfl, e5⟩ := List.append_inj' e1 rfl
    have e6 : bk l k' = last := by simpa using e5
    subst e6
    refine ⟨.tuple #[.agg #[.int .i64 (bk l k').2.1, .int .i64 (bk l k').2.2], .bool true], ?_, .inr ⟨k', by omega, rfl, e3, fun j hj => e2 (bk l j) (by simp only [upto, List.mem_map, List.mem_range]; exact ⟨j, hj, rfl⟩)⟩, hB.trans (belowK_b (w := w) (Nat.le_refl _) W D _ _ (by omega) hK rfl rfl)⟩
    simp [results, Try.results31, go_sem, r1, r2, r3']
end Go.Proofs.Ytophbefmlfieeaa
