/-
  THE CONTRACTS of a known transaction's note, beside an update's and a taking back's.
-/
import Derived.Test.YtophbefmlfieeaaTxNote
namespace Go.Proofs.Ytophbefmlfieeaa
open Go.RowKit
theorem RecR.slice {W : World} {B : Nat} {v : Value} {l : List Rc} (h : RecR W B v l) : ∃ a c, v = .slice a l.length c := by
  rcases h.form with ⟨e, e2⟩ | ⟨g, c, e, _⟩
  · exact ⟨none, 0, by rw [e, e2]; rfl⟩
  · exact ⟨_, c, e⟩
section
variable {W : World} {B K : Nat} {d : KnD}
set_option maxRecDepth 100000 in
set_option maxHeartbeats 4000000 in
theorem kn_save (h : KnIs W B K d) (g t p pg u : Int) (key sb sa : ByteArray) (hb ha : Bool) (hst : d.st = 1) (hp : p = d.last) (hl : d.cl.length ≤ 100000 ∧ d.pl.length ≤ 100000) :
    Calls Try.prog 49 #[.pointer (some ⟨K, 0, none⟩), .agg #[.int .i64 4, .int .i64 g, .int .i64 t, .int .i64 p, .int .i64 pg, .string key, .bool hb, .string sb, .bool ha, .string sa, .int .i64 u]] W (NtP W B K d 0 { d with last := g, pl := d.pl ++ [(u, (d.cl.length : Int))] }) := by
  obtain ⟨id, home, first, last, st, cv, cl, pv, pl⟩ := d
  simp only at hst hp hl
  subst hst hp
  have hsl := h.cr.slice
  simp only at hsl
  obtain ⟨ca, cc, rfl⟩ := hsl
  have hb0 := (Below.refl W.heap.size W).alloc (Nat.le_refl _) (.cells #[.int .i64 4, .int .i64 g, .int .i64 t, .int .i64 p, .int .i64 pg, .string key, .bool hb, .string sb, .bool ha, .string sa, .int .i64 u] 38)
  have N0 := Lib.hid (h.below hb0)
  have Q0 : Hid (R11 (W.alloc (.cells #[.int .i64 4, .int .i64 g, .int .i64 t, .int .i64 p, .int .i64 pg, .string key, .bool hb, .string sb, .bool ha, .string sa, .int .i64 u] 38)) W.heap.size ⟨4, g, t, p, pg, key, hb, sb, ha, sa, u⟩) := R11.new W ⟨4, g, t, p, pg, key, hb, sb, ha, sa, u⟩ 38
  have F0 : Hid (FrKn W (W.alloc (.cells #[.int .i64 4, .int .i64 g, .int .i64 t, .int .i64 p, .int .i64 pg, .string key, .bool hb, .string sb, .bool ha, .string sa, .int .i64 u] 38)) K (.slice ca cl.length cc) pv) := FrKn.of_below hb0
  have hKq : K ≠ W.heap.size := Nat.ne_of_lt h.lt
  clear hb0 h
  go_enter Try.func49, Try.ntmps49
  go_upto_region 1 with fail
  generalize W.alloc (.cells #[.int .i64 4, .int .i64 g, .int .i64 t, .int .i64 p, .int .i64 pg, .string key, .bool hb, .string sb, .bool ha, .string sa, .int .i64 u] 38) = Y at *
  generalize hq : W.heap.size = q at *
  have k3 := N0.out.c3
  have k4 := N0.out.c4
  have kf := N0.out.fz
  obtain ⟨c0, c1, c2, c3, c4, c5, c6, c7, c8, c9, c10⟩ := Q0.out.all
  simp only at k3 k4
  go_upto_region 3 with fail
  go_quiet (fail)
  have N1 : Hid (KnIs (Y.drewN nq) B K _) := N0.out.below (below_drewN (Below.refl _ _) nq)
  have Q1 : Hid (R11 (Y.drewN nq) q ⟨4, g, t, p, pg, key, hb, sb, ha, sa, u⟩) := Q0.out.below (below_drewN (Below.refl _ _) nq)
  have F1 : Hid (FrKn W (Y.drewN nq) K (.slice ca cl.length cc) pv) := F0.out.trans (FrKn.of_below (below_drewN (Below.refl _ _) nq))
  clear N0 Q0 F0 k3 k4 kf c0 c1 c2 c3 c4 c5 c6 c7 c8 c9 c10
  generalize Y.drewN nq = Z at *
  have k3 := N1.out.c3
  have kf := N1.out.fz
  obtain ⟨c0, c1, c2, c3, c4, c5, c6, c7, c8, c9, c10⟩ := Q1.out.all
  simp only at k3
  have N2 := Lib.hid (N1.out.set5 3 g (by omega))
  have Q2 := Lib.hid (Q1.out.other (b := K) (i := 3) (u := .int .i64 g) hKq)
  have F2 := Lib.hid (F1.out.set (i := 3) (u := .int .i64 g))
  go_upto_region 6 with fail
  generalize Z.setCell ⟨K, 3, none⟩ (.int .i64 g) = V at *
  clear k3 kf c0 c1 c2 c3 c4 c5 c6 c7 c8 c9 c10 N1 Q1 F1
  have k4 := N2.out.c4
  have k5 := N2.out.c5
  have k6 := N2.out.c6
  have kf := N2.out.fz
  obtain ⟨c0, c1, c2, c3, c4, c5, c6, c7, c8, c9, c10⟩ := Q2.out.all
  simp only at k4 k5 k6
  have hl1 : (cl.length : Int) ≤ 100000 := by omega
  have hl2 : pl.length ≤ 100000 := hl.2
  clear hl
  go_upto_region 12 with fail
  have hba := (Below.refl V.heap.size V).alloc (Nat.le_refl _) (.cells #[.int .i64 u, .int .i64 (cl.length : Int)] 60)
  have hbd := hba.drew
  have N4 : Hid (KnIs (V.alloc (.cells #[.int .i64 u, .int .i64 (cl.length : Int)] 60)).drew B K _) := N2.out.below hbd
  have F4 : Hid (FrKn W (V.alloc (.cells #[.int .i64 u, .int .i64 (cl.length : Int)] 60)).drew K (.slice ca cl.length cc) pv) := F2.out.trans (.of_below hbd)
  have m6 : (V.alloc (.cells #[.int .i64 u, .int .i64 (cl.length : Int)] 60)).cell? ⟨K, 6, none⟩ = some pv := N4.out.c6
  have m5 : (V.alloc (.cells #[.int .i64 u, .int .i64 (cl.length : Int)] 60)).cell? ⟨K, 5, none⟩ = some (.slice ca cl.length cc) := N4.out.c5
  have mf : ∀ i, (V.alloc (.cells #[.int .i64 u, .int .i64 (cl.length : Int)] 60)).frozen? ⟨K, i, none⟩ = false := N4.out.fz
  have HR : Hid (PlcR (V.alloc (.cells #[.int .i64 u, .int .i64 (cl.length : Int)] 60)).drew B pv pl) := N4.out.pr
  have HM : Hid (∀ j v, ([.int .i64 u, .int .i64 (cl.length : Int)] : List Value)[j]? = some v → (V.alloc (.cells #[.int .i64 u, .int .i64 (cl.length : Int)] 60)).drew.cell? ((⟨V.heap.size, 0, none⟩ : Addr).add j) = some v) := fun j v hj => by
    have e2 : (⟨V.heap.size, 0, none⟩ : Addr).add j = ⟨V.heap.size, j, none⟩ := by unfold Addr.add; split <;> simp_all
    rw [e2]; exact (new_cell rfl (by simpa using hj) : (V.alloc (.cells #[.int .i64 u, .int .i64 (cl.length : Int)] 60)).cell? _ = _)
  have HB := Lib.hid (Nat.le_trans N2.out.lo (Nat.le_trans (Nat.le_of_lt N2.out.lt) hbd.size))
  have d10 := keep_alloc (o := .cells #[.int .i64 u, .int .i64 (cl.length : Int)] 60) c10
  clear hba hbd
  go_region_law ((refine step_append_pl (by rfl) _ _ (by rfl) B pv pl ⟨V.heap.size, 0, none⟩ (u, (cl.length : Int)) 1 (by rfl) HR.out (by rfl) HM.out hl2 HB.out ?_; intro v9 w9 r9 hg9 ho9; obtain ⟨g9, n9, c9, rfl⟩ := r9.some (by simp); have n6 := N4.out.row6 hg9; have n6f := N4.out.row6f hg9; have T9 := Lib.hid (N4.out.putP r9 hg9 (by rcases ho9 with e | e; exact .inl e; exact .inr (.inl e))); have O9 := Lib.hid (own_of ho9 F4.out.size); have F9 := Lib.hid ((F4.out.grow hg9 (fun k hk => .inr (.inl hk))).set (i := 6) (u := .slice (some ⟨g9, 0, none⟩) n9 c9)); clear hg9 ho9 r9; simp only at n6))
  all_goals
    go_wp2
    go_ret
    exact ⟨rfl, ⟨_, _, T9.out, fun _ hk => .inl hk, O9.out⟩, F9.out⟩
set_option maxRecDepth 100000 in
set_option maxHeartbeats 4000000 in
theorem kn_commit (h : KnIs W B K d) (g t p pg u : Int) (key sb sa : ByteArray) (hb ha : Bool) (hst : d.st = 1) (hp : p = d.last) (hl : d.cl.length ≤ 100000 ∧ d.pl.length ≤ 100000) :
    Calls Try.prog 49 #[.pointer (some ⟨K, 0, none⟩), .agg #[.int .i64 5, .int .i64 g, .int .i64 t, .int .i64 p, .int .i64 pg, .string key, .bool hb, .string sb, .bool ha, .string sa, .int .i64 u]] W (NtP W B K d 0 { d with last := g, st := 2 }) := by
  obtain ⟨id, home, first, last, st, cv, cl, pv, pl⟩ := d
  simp only at hst hp hl
  subst hst hp
  have hsl := h.cr.slice
  simp only at hsl
  obtain ⟨ca, cc, rfl⟩ := hsl
  have hb0 := (Below.refl W.heap.size W).alloc (Nat.le_refl _) (.cells #[.int .i64 5, .int .i64 g, .int .i64 t, .int .i64 p, .int .i64 pg, .string key, .bool hb, .string sb, .bool ha, .string sa, .int .i64 u] 38)
  have N0 := Lib.hid (h.below hb0)
  have Q0 : Hid (R11 (W.alloc (.cells #[.int .i64 5, .int .i64 g, .int .i64 t, .int .i64 p, .int .i64 pg, .string key, .bool hb, .string sb, .bool ha, .string sa, .int .i64 u] 38)) W.heap.size ⟨5, g, t, p, pg, key, hb, sb, ha, sa, u⟩) := R11.new W ⟨5, g, t, p, pg, key, hb, sb, ha, sa, u⟩ 38
  have F0 : Hid (FrKn W (W.alloc (.cells #[.int .i64 5, .int .i64 g, .int .i64 t, .int .i64 p, .int .i64 pg, .string key, .bool hb, .string sb, .bool ha, .string sa, .int .i64 u] 38)) K (.slice ca cl.length cc) pv) := FrKn.of_below hb0
  have hKq : K ≠ W.heap.size := Nat.ne_of_lt h.lt
  clear hb0 h
  go_enter Try.func49, Try.ntmps49
  go_upto_region 1 with fail
  generalize W.alloc (.cells #[.int .i64 5, .int .i64 g, .int .i64 t, .int .i64 p, .int .i64 pg, .string key, .bool hb, .string sb, .bool ha, .string sa, .int .i64 u] 38) = Y at *
  generalize hq : W.heap.size = q at *
  have k3 := N0.out.c3
  have k4 := N0.out.c4
  have kf := N0.out.fz
  obtain ⟨c0, c1, c2, c3, c4, c5, c6, c7, c8, c9, c10⟩ := Q0.out.all
  simp only at k3 k4
  go_upto_region 3 with fail
  go_quiet (fail)
  have N1 : Hid (KnIs (Y.drewN nq) B K _) := N0.out.below (below_drewN (Below.refl _ _) nq)
  have Q1 : Hid (R11 (Y.drewN nq) q ⟨5, g, t, p, pg, key, hb, sb, ha, sa, u⟩) := Q0.out.below (below_drewN (Below.refl _ _) nq)
  have F1 : Hid (FrKn W (Y.drewN nq) K (.slice ca cl.length cc) pv) := F0.out.trans (FrKn.of_below (below_drewN (Below.refl _ _) nq))
  clear N0 Q0 F0 k3 k4 kf c0 c1 c2 c3 c4 c5 c6 c7 c8 c9 c10
  generalize Y.drewN nq = Z at *
  have k3 := N1.out.c3
  have kf := N1.out.fz
  obtain ⟨c0, c1, c2, c3, c4, c5, c6, c7, c8, c9, c10⟩ := Q1.out.all
  simp only at k3
  have N2 := Lib.hid (N1.out.set5 3 g (by omega))
  have Q2 := Lib.hid (Q1.out.other (b := K) (i := 3) (u := .int .i64 g) hKq)
  have F2 := Lib.hid (F1.out.set (i := 3) (u := .int .i64 g))
  go_upto_region 6 with fail
  generalize Z.setCell ⟨K, 3, none⟩ (.int .i64 g) = V at *
  clear k3 kf c0 c1 c2 c3 c4 c5 c6 c7 c8 c9 c10 N1 Q1 F1
  have k4 := N2.out.c4
  have k5 := N2.out.c5
  have k6 := N2.out.c6
  have kf := N2.out.fz
  obtain ⟨c0, c1, c2, c3, c4, c5, c6, c7, c8, c9, c10⟩ := Q2.out.all
  simp only at k4 k5 k6
  clear hl
  have T9 := Lib.hid (N2.out.set5 4 2 (by omega))
  have F9 := Lib.hid (F2.out.set (i := 4) (u := .int .i64 2))
  go_wp2
  go_ret
  exact ⟨rfl, ⟨_, _, T9.out, fun _ hk => .inl hk, fun _ hk => .inl hk⟩, F9.out⟩
set_option maxRecDepth 100000 in
set_option maxHeartbeats 4000000 in
theorem kn_end (h : KnIs W B K d) (g t p pg u : Int) (key sb sa : ByteArray) (hb ha : Bool) (hst : d.st = 1) (hp : p = d.last) (hl : d.cl.length ≤ 100000 ∧ d.pl.length ≤ 100000) :
    Calls Try.prog 49 #[.pointer (some ⟨K, 0, none⟩), .agg #[.int .i64 6, .int .i64 g, .int .i64 t, .int .i64 p, .int .i64 pg, .string key, .bool hb, .string sb, .bool ha, .string sa, .int .i64 u]] W (NtP W B K d 0 { d with last := g, st := 3 }) := by
  obtain ⟨id, home, first, last, st, cv, cl, pv, pl⟩ := d
  simp only at hst hp hl
  subst hst hp
  have hsl := h.cr.slice
  simp only at hsl
  obtain ⟨ca, cc, rfl⟩ := hsl
  have hb0 := (Below.refl W.heap.size W).alloc (Nat.le_refl _) (.cells #[.int .i64 6, .int .i64 g, .int .i64 t, .int .i64 p, .int .i64 pg, .string key, .bool hb, .string sb, .bool ha, .string sa, .int .i64 u] 38)
  have N0 := Lib.hid (h.below hb0)
  have Q0 : Hid (R11 (W.alloc (.cells #[.int .i64 6, .int .i64 g, .int .i64 t, .int .i64 p, .int .i64 pg, .string key, .bool hb, .string sb, .bool ha, .string sa, .int .i64 u] 38)) W.heap.size ⟨6, g, t, p, pg, key, hb, sb, ha, sa, u⟩) := R11.new W ⟨6, g, t, p, pg, key, hb, sb, ha, sa, u⟩ 38
  have F0 : Hid (FrKn W (W.alloc (.cells #[.int .i64 6, .int .i64 g, .int .i64 t, .int .i64 p, .int .i64 pg, .string key, .bool hb, .string sb, .bool ha, .string sa, .int .i64 u] 38)) K (.slice ca cl.length cc) pv) := FrKn.of_below hb0
  have hKq : K ≠ W.heap.size := Nat.ne_of_lt h.lt
  clear hb0 h
  go_enter Try.func49, Try.ntmps49
  go_upto_region 1 with fail
  generalize W.alloc (.cells #[.int .i64 6, .int .i64 g, .int .i64 t, .int .i64 p, .int .i64 pg, .string key, .bool hb, .string sb, .bool ha, .string sa, .int .i64 u] 38) = Y at *
  generalize hq : W.heap.size = q at *
  have k3 := N0.out.c3
  have k4 := N0.out.c4
  have kf := N0.out.fz
  obtain ⟨c0, c1, c2, c3, c4, c5, c6, c7, c8, c9, c10⟩ := Q0.out.all
  simp only at k3 k4
  go_upto_region 3 with fail
  go_quiet (fail)
  have N1 : Hid (KnIs (Y.drewN nq) B K _) := N0.out.below (below_drewN (Below.refl _ _) nq)
  have Q1 : Hid (R11 (Y.drewN nq) q ⟨6, g, t, p, pg, key, hb, sb, ha, sa, u⟩) := Q0.out.below (below_drewN (Below.refl _ _) nq)
  have F1 : Hid (FrKn W (Y.drewN nq) K (.slice ca cl.length cc) pv) := F0.out.trans (FrKn.of_below (below_drewN (Below.refl _ _) nq))
  clear N0 Q0 F0 k3 k4 kf c0 c1 c2 c3 c4 c5 c6 c7 c8 c9 c10
  generalize Y.drewN nq = Z at *
  have k3 := N1.out.c3
  have kf := N1.out.fz
  obtain ⟨c0, c1, c2, c3, c4, c5, c6, c7, c8, c9, c10⟩ := Q1.out.all
  simp only at k3
  have N2 := Lib.hid (N1.out.set5 3 g (by omega))
  have Q2 := Lib.hid (Q1.out.other (b := K) (i := 3) (u := .int .i64 g) hKq)
  have F2 := Lib.hid (F1.out.set (i := 3) (u := .int .i64 g))
  go_upto_region 6 with fail
  generalize Z.setCell ⟨K, 3, none⟩ (.int .i64 g) = V at *
  clear k3 kf c0 c1 c2 c3 c4 c5 c6 c7 c8 c9 c10 N1 Q1 F1
  have k4 := N2.out.c4
  have k5 := N2.out.c5
  have k6 := N2.out.c6
  have kf := N2.out.fz
  obtain ⟨c0, c1, c2, c3, c4, c5, c6, c7, c8, c9, c10⟩ := Q2.out.all
  simp only at k4 k5 k6
  clear hl
  have T9 := Lib.hid (N2.out.set5 4 3 (by omega))
  have F9 := Lib.hid (F2.out.set (i := 4) (u := .int .i64 3))
  go_wp2
  go_ret
  exact ⟨rfl, ⟨_, _, T9.out, fun _ hk => .inl hk, fun _ hk => .inl hk⟩, F9.out⟩
set_option maxRecDepth 100000 in
set_option maxHeartbeats 4000000 in
theorem kn_state (h : KnIs W B K d) (k : Int) (g t p pg u : Int) (key sb sa : ByteArray) (hb ha : Bool) (hst : ¬ d.st = 1) :
    Calls Try.prog 49 #[.pointer (some ⟨K, 0, none⟩), .agg #[.int .i64 k, .int .i64 g, .int .i64 t, .int .i64 p, .int .i64 pg, .string key, .bool hb, .string sb, .bool ha, .string sa, .int .i64 u]] W (fun x w' => x = .returned (.int .i64 12) ∧ Below W.heap.size W w') := by
  obtain ⟨id, home, first, last, st, cv, cl, pv, pl⟩ := d
  simp only at hst
  have hb0 := (Below.refl W.heap.size W).alloc (Nat.le_refl _) (.cells #[.int .i64 k, .int .i64 g, .int .i64 t, .int .i64 p, .int .i64 pg, .string key, .bool hb, .string sb, .bool ha, .string sa, .int .i64 u] 38)
  have N0 := Lib.hid (h.below hb0)
  have B0 := Lib.hid hb0
  clear hb0 h
  go_enter Try.func49, Try.ntmps49
  go_upto_region 1 with fail
  generalize W.alloc (.cells #[.int .i64 k, .int .i64 g, .int .i64 t, .int .i64 p, .int .i64 pg, .string key, .bool hb, .string sb, .bool ha, .string sa, .int .i64 u] 38) = Y at *
  have k4 := N0.out.c4
  simp only at k4
  go_wp2
  go_ret
  exact ⟨rfl, B0.out⟩
set_option maxRecDepth 100000 in
set_option maxHeartbeats 4000000 in
theorem kn_prev (h : KnIs W B K d) (k : Int) (g t p pg u : Int) (key sb sa : ByteArray) (hb ha : Bool) (hst : d.st = 1) (hp : ¬ p = d.last) :
    Calls Try.prog 49 #[.pointer (some ⟨K, 0, none⟩), .agg #[.int .i64 k, .int .i64 g, .int .i64 t, .int .i64 p, .int .i64 pg, .string key, .bool hb, .string sb, .bool ha, .string sa, .int .i64 u]] W (fun x w' => x = .returned (.int .i64 1) ∧ Below W.heap.size W w') := by
  obtain ⟨id, home, first, last, st, cv, cl, pv, pl⟩ := d
  simp only at hst hp
  subst hst
  have hb0 := (Below.refl W.heap.size W).alloc (Nat.le_refl _) (.cells #[.int .i64 k, .int .i64 g, .int .i64 t, .int .i64 p, .int .i64 pg, .string key, .bool hb, .string sb, .bool ha, .string sa, .int .i64 u] 38)
  have N0 := Lib.hid (h.below hb0)
  have Q0 : Hid (R11 (W.alloc (.cells #[.int .i64 k, .int .i64 g, .int .i64 t, .int .i64 p, .int .i64 pg, .string key, .bool hb, .string sb, .bool ha, .string sa, .int .i64 u] 38)) W.heap.size ⟨k, g, t, p, pg, key, hb, sb, ha, sa, u⟩) := R11.new W ⟨k, g, t, p, pg, key, hb, sb, ha, sa, u⟩ 38
  have B0 := Lib.hid hb0
  clear hb0 h
  go_enter Try.func49, Try.ntmps49
  go_upto_region 1 with fail
  generalize W.alloc (.cells #[.int .i64 k, .int .i64 g, .int .i64 t, .int .i64 p, .int .i64 pg, .string key, .bool hb, .string sb, .bool ha, .string sa, .int .i64 u] 38) = Y at *
  generalize hq : W.heap.size = q at *
  have k3 := N0.out.c3
  have k4 := N0.out.c4
  obtain ⟨c0, c1, c2, c3, c4, c5, c6, c7, c8, c9, c10⟩ := Q0.out.all
  simp only at k3 k4
  go_upto_region 3 with fail
  go_quiet (fail)
  have B3 := Lib.hid (below_drewN B0.out nq)
  go_wp2
  go_ret
  exact ⟨rfl, hq ▸ B3.out⟩
end
end Go.Proofs.Ytophbefmlfieeaa
