/-
  THE CONTRACTS of a known transaction's note.
-/
import Derived.Test.YtophbefmlfieeaaTxKn
import Derived.Deep.RegionLawGrows
namespace Go.Proofs.Ytophbefmlfieeaa
open Go.RowKit
theorem R11.src {W : World} {q : Nat} {r : Rc} (h : R11 W q r) : ∀ j u, r.cells[j]? = some u → W.cell? ((⟨q, 0, none⟩ : Addr).add j) = some u := fun j u hj => by
  have e2 : (⟨q, 0, none⟩ : Addr).add j = ⟨q, j, none⟩ := by unfold Addr.add; split <;> simp_all
  rw [e2]; exact h.at' j u hj
theorem KnIs.row5 {W X : World} {B K : Nat} {d : KnD} (h : KnIs W B K d) (hg : W.grownBy X d.cv.ownBlock) : X.cell? ⟨K, 5, none⟩ = some d.cv := (World.cell?_of_block (hg.block K h.lt (fun e => h.nc e.symm))).trans h.c5
theorem KnIs.row5f {W X : World} {B K : Nat} {d : KnD} (h : KnIs W B K d) (hg : W.grownBy X d.cv.ownBlock) : X.frozen? ⟨K, 5, none⟩ = false := (World.frozen?_of_block (a := ⟨K, 5, none⟩) (hg.block K h.lt (fun e => h.nc e.symm))).trans (h.fz 5)
theorem KnIs.row6 {W X : World} {B K : Nat} {d : KnD} (h : KnIs W B K d) (hg : W.grownBy X d.pv.ownBlock) : X.cell? ⟨K, 6, none⟩ = some d.pv := (World.cell?_of_block (hg.block K h.lt (fun e => h.np e.symm))).trans h.c6
theorem KnIs.row6f {W X : World} {B K : Nat} {d : KnD} (h : KnIs W B K d) (hg : W.grownBy X d.pv.ownBlock) : X.frozen? ⟨K, 6, none⟩ = false := (World.frozen?_of_block (a := ⟨K, 6, none⟩) (hg.block K h.lt (fun e => h.np e.symm))).trans (h.fz 6)
theorem RecR.some {W : World} {B : Nat} {v : Value} {l : List Rc} (h : RecR W B v l) (h0 : l ≠ []) : ∃ g n c, v = .slice (Option.some ⟨g, 0, none⟩) n c := by
  rcases h.form with ⟨_, e⟩ | ⟨g, c, e, _⟩
  · exact absurd e h0
  · exact ⟨g, _, c, e⟩
theorem PlcR.some {W : World} {B : Nat} {v : Value} {l : List Plc} (h : PlcR W B v l) (h0 : l ≠ []) : ∃ g n c, v = .slice (Option.some ⟨g, 0, none⟩) n c := by
  rcases h.form with ⟨_, e⟩ | ⟨g, c, e, _⟩
  · exact absurd e h0
  · exact ⟨g, _, c, e⟩
/-- What note leaves. -/
def NtP (W : World) (B K : Nat) (d : KnD) (e : Int) (d' : KnD) (x : Ending) (w' : World) : Prop :=
  x = .returned (.int .i64 e) ∧ (∃ cv pv, KnIs w' B K { d' with cv := cv, pv := pv } ∧ (∀ k, cv.ownBlock = some k → d.cv.ownBlock = some k ∨ W.heap.size ≤ k) ∧ ∀ k, pv.ownBlock = some k → d.pv.ownBlock = some k ∨ W.heap.size ≤ k) ∧ FrKn W w' K d.cv d.pv
theorem own_of {v u : Value} {s S : Nat} (h : v.ownBlock = u.ownBlock ∨ v.ownBlock = some S) (hs : s ≤ S) : ∀ k, v.ownBlock = some k → u.ownBlock = some k ∨ s ≤ k := fun k hk => by
  rcases h with e | e
  · exact .inl (e.symm.trans hk)
  · refine .inr ?_
    rw [e] at hk
    injection hk with hk
    omega
section
variable {W : World} {B K : Nat} {d : KnD}
set_option maxRecDepth 100000 in
set_option maxHeartbeats 4000000 in
theorem kn_update (h : KnIs W B K d) (hst : d.st = 1) (g t p pg u : Int) (key sb sa : ByteArray) (hb ha : Bool) (hp : p = d.last) (h1 : key.size ≤ 281474976710656) (h2 : sb.size ≤ 281474976710656) (h3 : sa.size ≤ 281474976710656) (hl : d.cl.length ≤ 100000) :
    Calls Try.prog 49 #[.pointer (some ⟨K, 0, none⟩), (.agg #[.int .i64 2, .int .i64 g, .int .i64 t, .int .i64 p, .int .i64 pg, .string key, .bool hb, .string sb, .bool ha, .string sa, .int .i64 u])] W (NtP W B K d 0 { d with last := g, cl := d.cl ++ [⟨2, g, t, p, pg, key, hb, sb, ha, sa, u⟩] }) := by
  have KP := Lib.hid (fun X => kept_any 2 g t p pg u key sb sa hb ha X h1 h2 h3)
  clear h1 h2 h3
  obtain ⟨id, home, first, last, st, cv, cl, pv, pl⟩ := d
  simp only at hst hp hl
  subst hst hp
  have hb0 := (Below.refl W.heap.size W).alloc (Nat.le_refl _) (.cells #[.int .i64 2, .int .i64 g, .int .i64 t, .int .i64 p, .int .i64 pg, .string key, .bool hb, .string sb, .bool ha, .string sa, .int .i64 u] 38)
  have N0 := Lib.hid (h.below hb0)
  have Q0 : Hid (R11 (W.alloc (.cells #[.int .i64 2, .int .i64 g, .int .i64 t, .int .i64 p, .int .i64 pg, .string key, .bool hb, .string sb, .bool ha, .string sa, .int .i64 u] 38)) W.heap.size ⟨2, g, t, p, pg, key, hb, sb, ha, sa, u⟩) := R11.new W ⟨2, g, t, p, pg, key, hb, sb, ha, sa, u⟩ 38
  have F0 : Hid (FrKn W (W.alloc (.cells #[.int .i64 2, .int .i64 g, .int .i64 t, .int .i64 p, .int .i64 pg, .string key, .bool hb, .string sb, .bool ha, .string sa, .int .i64 u] 38)) K cv pv) := FrKn.of_below hb0
  have hKq : K ≠ W.heap.size := Nat.ne_of_lt h.lt
  clear hb0 h
  go_enter Try.func49, Try.ntmps49
  go_upto_region 1 with fail
  generalize W.alloc (.cells #[.int .i64 2, .int .i64 g, .int .i64 t, .int .i64 p, .int .i64 pg, .string key, .bool hb, .string sb, .bool ha, .string sa, .int .i64 u] 38) = Y at *
  generalize hq : W.heap.size = q at *
  have k3 := N0.out.c3
  have k4 := N0.out.c4
  have kf := N0.out.fz
  obtain ⟨c0, c1, c2, c3, c4, c5, c6, c7, c8, c9, c10⟩ := Q0.out.all
  simp only at k3 k4
  go_upto_region 3 with fail
  go_quiet (fail)
  have N1 : Hid (KnIs (Y.drewN nq) B K _) := N0.out.below (below_drewN (Below.refl _ _) nq)
  have Q1 : Hid (R11 (Y.drewN nq) q ⟨2, g, t, p, pg, key, hb, sb, ha, sa, u⟩) := Q0.out.below (below_drewN (Below.refl _ _) nq)
  have F1 : Hid (FrKn W (Y.drewN nq) K cv pv) := F0.out.trans (FrKn.of_below (below_drewN (Below.refl _ _) nq))
  clear N0 Q0 F0 k3 k4 kf c0 c1 c2 c3 c4 c5 c6 c7 c8 c9 c10
  generalize Y.drewN nq = Z at *
  have k3 := N1.out.c3
  have kf := N1.out.fz
  obtain ⟨c0, c1, c2, c3, c4, c5, c6, c7, c8, c9, c10⟩ := Q1.out.all
  simp only at k3
  have N2 := Lib.hid (N1.out.set5 3 g (by omega))
  have Q2 := Lib.hid (Q1.out.other (b := K) (i := 3) (u := .int .i64 g) hKq)
  have F2 := Lib.hid (F1.out.set (i := 3) (u := .int .i64 g))
  go_upto_region 6 with fail
  generalize Z.setCell ⟨K, 3, none⟩ (.int .i64 g) = V at *
  clear k3 kf c0 c1 c2 c3 c4 c5 c6 c7 c8 c9 c10 N1 Q1 F1
  have k5 := N2.out.c5
  have kf := N2.out.fz
  obtain ⟨c0, c1, c2, c3, c4, c5, c6, c7, c8, c9, c10⟩ := Q2.out.all
  simp only at k5
  go_upto_region 8 with fail
  have hVd := (Below.refl V.heap.size V).drew
  have HV := Lib.hid hVd
  clear hVd
  go_region_law ((first
    | (go_simp; go_at_call 66; (with_reducible refine (KP.out _).mono ?_); rintro x w2 ⟨rfl, hb2⟩; have hb3 := HV.out.trans (hb2.mono HV.out.size); have N3 := Lib.hid (N2.out.below hb3); have hba := (Below.refl w2.heap.size w2).alloc (Nat.le_refl _) (.cells #[.int .i64 2, .int .i64 g, .int .i64 t, .int .i64 p, .int .i64 pg, .string key, .bool hb, .string sb, .bool ha, .string sa, .int .i64 u] 38); have N4 := Lib.hid (N3.out.below hba); have F4 := Lib.hid ((F2.out.trans (.of_below hb3)).trans (.of_below hba)); have m5 := N3.out.c5; have m6 := N4.out.c5; have mf := N3.out.fz; have mg := N4.out.fz; have HR := Lib.hid N4.out.cr; have HM := Lib.hid ((R11.new w2 ⟨2, g, t, p, pg, key, hb, sb, ha, sa, u⟩ 38).src); have HB := Lib.hid (Nat.le_trans N3.out.lo (Nat.le_trans (Nat.le_of_lt N3.out.lt) hba.size)); clear hb2 hb3 hba; simp only at m5 m6; go_simp)
    | (refine step_append_rc (by rfl) _ _ (by rfl) B cv cl ⟨w2.heap.size, 0, none⟩ ⟨2, g, t, p, pg, key, hb, sb, ha, sa, u⟩ 1 (by rfl) HR.out (by rfl) HM.out (by omega) HB.out ?_; intro v9 w9 r9 hg9 ho9; obtain ⟨g9, n9, c9, rfl⟩ := r9.some (by simp); have n5 := N4.out.row5 hg9; have n5f := N4.out.row5f hg9; have T9 := Lib.hid (N4.out.putC r9 hg9 (by rcases ho9 with e | e; exact .inl e; exact .inr (.inl e))); have O9 := Lib.hid (own_of ho9 F4.out.size); have F9 := Lib.hid ((F4.out.grow hg9 (fun k hk => .inl hk)).set (i := 5) (u := .slice (some ⟨g9, 0, none⟩) n9 c9)); clear hg9 ho9 r9; simp only at n5)))
  all_goals
    go_wp2
    go_ret
    exact ⟨rfl, ⟨_, _, T9.out, O9.out, fun _ hk => .inl hk⟩, F9.out⟩
end
end Go.Proofs.Ytophbefmlfieeaa
