/-
  A TABLE OF LOCKS BETWEEN ACTS, IN MEMORY: Ask, Quit, Free; a row beside it stays.
-/
import Derived.Test.YtjojempjmpaaaaaLkm7
import Derived.Test.YtjojempjmpaaaaaLkAskAny
import Derived.Test.YtjojempjmpaaaaaLkm9
import Derived.Test.YtjojempjmpaaaaaLkm11
import Derived.Test.YtjojempjmpaaaaaLkm12
import Derived.Test.YtjojempjmpaaaaaLkArgs
namespace Go.Proofs.Ytjojempjmpaaaaa
open Go.RowKit
theorem AskR.withP {s s' : Lk} {o : Int} {k : ByteArray} {b : Bool} {e : Int} (h : AskR s o k b e s') (p : Nat → Option Obj) : AskR (withP s p) o k b e (withP s' p) := by
  cases h with
  | neg h => exact .neg h
  | state w h h2 => exact .state (s := Go.Proofs.Ytjojempjmpaaaaa.withP s p) w h h2
  | has h0 h1 h2 h3 h4 => exact .has (s := Go.Proofs.Ytjojempjmpaaaaa.withP s p) h0 h1 h2 h3 h4
  | up K h0 h1 h2 h3 h4 h5 h6 => exact .up (s := Go.Proofs.Ytjojempjmpaaaaa.withP s p) K h0 h1 h2 h3 h4 h5 h6
  | upw K h0 w h1 h2 h3 h4 h5 h6 h7 => exact .upw (s := Go.Proofs.Ytjojempjmpaaaaa.withP s p) K h0 w h1 h2 h3 h4 h5 h6 h7
  | hold K m w h1 h2 h3 h4 h5 h6 => exact .hold (s := Go.Proofs.Ytjojempjmpaaaaa.withP s p) K m w h1 h2 h3 h4 h5 h6
  | wait K w h1 h2 h3 h4 h5 => exact .wait (s := Go.Proofs.Ytjojempjmpaaaaa.withP s p) K w h1 h2 h3 h4 h5
theorem AskR.pas {s s' : Lk} {o : Int} {k : ByteArray} {b : Bool} {e : Int} (h : AskR s o k b e s') : s'.pas = s.pas := by cases h <;> rfl
theorem goneL_withP (p : Nat → Option Obj) : ∀ (os : List Int) (s : Lk), goneL (withP s p) os = withP (goneL s os) p
  | [], _ => rfl
  | o :: os, s => goneL_withP p os (goneT s o)
/-- Behind so many acts, in memory; a value's own block is none of the table's. -/
structure AcW (w0 wr : World) (T ml mh mw n : Nat) (s : Lk) (j : Nat) (v : Value) : Prop where
  t : LkAt w0.heap.size wr T ml mh mw n s
  a : Ac s n j
  bw : Below w0.heap.size w0 wr
  pv : ∀ g, v.ownBlock = some g → Nt s T g ∧ ∃ i u, wr.cell? ⟨g, i, none⟩ = some u
/-- What is left behind an act. -/
def AcK (w0 wr W' : World) (T ml mh mw n : Nat) (s : Lk) (j : Nat) (v : Value) : Prop := AcW w0 W' T ml mh mw n s j v ∧ ∀ g, v.ownBlock = some g → W'.heap[g]? = wr.heap[g]?
section
variable {w0 wr X : World} {T ml mh mw n j : Nat} {s : Lk} {v : Value} {o : Int} {k : ByteArray} {b : Bool}
theorem AcW.below (h : AcW w0 wr T ml mh mw n s j v) (hb : Below wr.heap.size wr X) : AcK w0 wr X T ml mh mw n s j v := by
  have hv : ∀ g, v.ownBlock = some g → X.heap[g]? = wr.heap[g]? := fun g e => by
    obtain ⟨_, i, u, hu⟩ := h.pv g e
    exact hb.block g (block_lt (p := ⟨g, i, none⟩) hu)
  exact ⟨⟨h.t.below hb, h.a, h.bw.trans (hb.mono h.bw.size), fun g e => by
    obtain ⟨nt, i, u, hu⟩ := h.pv g e
    exact ⟨nt, i, u, (World.cell?_of_block (a := ⟨g, i, none⟩) (hv g e)).trans hu⟩⟩, hv⟩
/-- The row rides along. -/
theorem AcW.ride (h : AcW w0 wr T ml mh mw n s j v) : LkAt w0.heap.size wr T ml mh mw n (withP s (rideP s.pas v wr)) := h.t.ride h.pv
theorem AcW.back (h : AcW w0 wr T ml mh mw n s j v) {n' j' : Nat} {s' : Lk} (ht : LkAt w0.heap.size X T ml mh mw n' (withP s' (rideP s.pas v wr))) (ha : Ac s' n' j') (hp : s'.pas = s.pas) (hb : Below w0.heap.size wr X) : AcK w0 wr X T ml mh mw n' s' j' v := by
  have hs : (withP s' (rideP s.pas v wr)).pas = rideP s.pas v wr := rfl
  have e : withP (withP s' (rideP s.pas v wr)) s.pas = s' := by rw [← hp]; rfl
  have rd := fun g (e2 : v.ownBlock = some g) => ht.rode hs e2 (by
    obtain ⟨_, i, u, hu⟩ := h.pv g e2
    exact ⟨_, Array.getElem?_eq_getElem (block_lt (p := ⟨g, i, none⟩) hu)⟩) (h.pv g e2).1.p
  have t2 := ht.unride hs (fun g e2 => (h.pv g e2).1.p)
  rw [e] at t2
  refine ⟨⟨t2, ha, h.bw.trans hb, fun g e2 => ?_⟩, fun g e2 => (rd g e2).1⟩
  obtain ⟨r1, r2⟩ := rd g e2
  rw [e] at r2
  obtain ⟨_, i, u, hu⟩ := h.pv g e2
  exact ⟨r2, i, u, (World.cell?_of_block (a := ⟨g, i, none⟩) r1).trans hu⟩
theorem ask_ac (h : AcW w0 wr T ml mh mw n s j v) (hj : j ≤ 1000) (hk : k.size ≤ 100) (hwf : (Lit.int .i64 o).wf = true) :
    Calls Try.prog 12 #[.pointer (some ⟨T, 0, none⟩), .int .i64 o, .agg #[.string k, .bool b]] wr fun e W' => ∃ c s', e = .returned (.int .i64 c) ∧ AskR s o k b c s' ∧ AcK w0 wr W' T ml mh mw (n + 3) s' (j + 1) v := by
  have hn := h.a.nb
  refine (ask_any h.ride (h.a.g.c.withP _) hwf (by omega) (by omega)).mono ?_
  rintro e W' ⟨c, s1, rfl, hr, ht, hb⟩
  have hp1 : s1.pas = rideP s.pas v wr := hr.pas
  have hr2 : AskR s o k b c (withP s1 s.pas) := hr.withP s.pas
  obtain ⟨a1, a2⟩ := h.a.ask hr2 hk hwf
  have e1 : withP (withP s1 s.pas) (rideP s.pas v wr) = s1 := by rw [← hp1]; rfl
  exact ⟨c, _, rfl, hr2, h.back (by rw [e1]; exact ht) a1 rfl hb⟩
theorem quit_ac (h : AcW w0 wr T ml mh mw n s j v) (hj : j ≤ 1000) (hwf : (Lit.int .i64 o).wf = true) :
    Calls Try.prog 13 #[.pointer (some ⟨T, 0, none⟩), .int .i64 o] wr fun e W' => (s.wt o = none ∧ e = .returned (.slice none 0 0) ∧ wr = W') ∨ ∃ w u ps n' s', s.wt o = some w ∧ e = .returned u ∧ RowI W' wr.heap.size u ps ∧ (ps = [] → u = .slice none 0 0) ∧ PassL (leftT s o) (keysL [(s.con w).k]) ps s' ∧ (∀ g, u.ownBlock = some g → Nt s' T g) ∧ AcK w0 wr W' T ml mh mw n' s' (j + 1) v := by
  cases hw : s.wt o with
  | none => exact (quit_no h.t hwf hw).mono fun e W' q => .inl ⟨rfl, q.1, q.2⟩
  | some w =>
    obtain ⟨c, h1, h2, h3⟩ := h.a.w
    refine (quit_yes h.ride (h.a.g.c.withP _) hwf (w1 := w) hw (c := c) h1 (by omega)).mono ?_
    rintro e W' ⟨u, ps, s1, rfl, hr, h0, hp, ht, hn, hb⟩
    have hp1 : s1.pas = rideP s.pas v wr := hp.pas
    have hp2 : PassL (leftT s o) (keysL [(s.con w).k]) ps (withP s1 s.pas) := hp.withP s.pas
    have e1 : withP (withP s1 s.pas) (rideP s.pas v wr) = s1 := by rw [← hp1]; rfl
    refine .inr ⟨w, u, ps, _, _, rfl, rfl, hr, h0, hp2, fun g e2 => ?_, h.back (by rw [e1]; exact ht) (h.a.quit hw hp2).1 rfl hb⟩
    have n1 := hn g e2
    have hg := (World.ownsRow.lt hr g e2).1
    refine ⟨n1.t, n1.k, n1.x, ?_⟩
    cases e3 : s.pas g with
    | none => exact e3
    | some z => have := h.t.ps.lt e3; omega
theorem free_ac (h : AcW w0 wr T ml mh mw n s j v) (hj : j ≤ 300) {g cap : Nat} {os : List Int} (hg : Nt s T g) (hgv : v.ownBlock ≠ some g) (hcell : ∀ i, i < os.length → wr.cell? ⟨g, i, none⟩ = some (.int .i64 (os.getD i 0))) (h0 : 0 < os.length) (hwf : ∀ o, o ∈ os → (Lit.int .i64 o).wf = true) (hl : os.length ≤ 12) :
    Calls Try.prog 14 #[.pointer (some ⟨T, 0, none⟩), .slice (some ⟨g, 0, none⟩) os.length cap] wr fun e W' => ∃ u kl ps n' s', e = .returned u ∧ RowI W' wr.heap.size u ps ∧ (ps = [] → u = .slice none 0 0) ∧ PassL (goneL s os) (keysL kl) ps s' ∧ (∀ k, k ∉ kl → SameAt s (goneL s os) k) ∧ (∀ g, u.ownBlock = some g → Nt s' T g) ∧ AcK w0 wr W' T ml mh mw n' s' (j + 1) v := by
  obtain ⟨c, h1, h2, h3⟩ := h.a.w
  have hn := h.a.nb
  refine (free_all h.ride (h.a.g.c.withP _) (c := c) h1 (g := g) (cap := cap) (os := os) ⟨hg.t, hg.k, hg.x, (if_neg hgv).trans hg.p⟩ hcell h0 hwf (by omega) (by omega) (by omega)).mono ?_
  rintro e W' ⟨u, kl, ps, s1, rfl, hr, h0, hp, ht, hpas, hn, ho, hb⟩
  have hp1 : s1.pas = rideP s.pas v wr := hpas
  rw [goneL_withP] at hp
  have hq : withP (withP (goneL s os) (rideP s.pas v wr)) s.pas = goneL s os := by
    have := (goneL_all (os := os) h.a.g.c).2.2.2.1
    rw [← this]; rfl
  have hp2 := hp.withP s.pas
  rw [hq] at hp2
  have ho2 : ∀ k, k ∉ kl → SameAt s (goneL s os) k := fun k hk => by
    have := ho k hk
    rw [goneL_withP] at this
    exact ⟨this.q, this.c, this.l⟩
  have e1 : withP (withP s1 s.pas) (rideP s.pas v wr) = s1 := by rw [← hp1]; rfl
  refine ⟨u, kl, ps, _, _, rfl, hr, h0, hp2, ho2, fun g' e2 => ?_, h.back (by rw [e1]; exact ht) (h.a.free hl hp2 ho2) rfl hb⟩
  have n1 := hn g' e2
  have hg' := (World.ownsRow.lt hr g' e2).1
  refine ⟨n1.t, n1.k, n1.x, ?_⟩
  cases e3 : s.pas g' with
  | none => exact e3
  | some z => have := h.t.ps.lt e3; omega
end
/-- append of numbers to numbers. -/
theorem ints_src {w : World} {a : Option Addr} {l : List Int} {c : Nat} (h : IntsAt w a l) : ((Value.slice a l.length c) = .slice none 0 c ∧ l.length = 0 ∧ l.map (Value.int .i64) = []) ∨ ∃ ad c', (Value.slice a l.length c) = .slice (some ad) l.length c' ∧ (l.map (Value.int .i64)).length = l.length * 1 ∧ (∀ j u, (l.map (Value.int .i64))[j]? = some u → w.cell? (ad.add j) = some u) ∧ (∀ u ∈ l.map (Value.int .i64), u.oneCell' = true) := by
  cases a with
  | none =>
    rcases h with rfl | ⟨b, off, e, _⟩
    · exact .inl ⟨rfl, rfl, rfl⟩
    · cases e
  | some ad =>
    refine .inr ⟨ad, c, rfl, by simp, fun j u hj => ?_, fun u hu => ?_⟩
    · have hj2 : j < l.length := by simpa using (List.getElem?_eq_some_iff.1 hj).1
      rcases h with rfl | ⟨b, off, e, h⟩
      · simp at hj2
      · injection e with e
        subst e
        rw [show (⟨b, off, none⟩ : Addr).add j = ⟨b, off + j, none⟩ by unfold Addr.add; split <;> simp_all, h j hj2]
        rw [List.getElem?_map, List.getElem?_eq_getElem hj2] at hj
        rw [List.getD_eq_getElem?_getD, List.getElem?_eq_getElem hj2]
        exact hj
    · obtain ⟨z, _, rfl⟩ := List.mem_map.1 hu
      rfl
theorem step_append_ii {ops : Array Oper} {o : Oper} {a : Act} {w : World} {K : Act → World → Prop} {Q : Exit → Act → World → Prop} {E : Prop}
    (hg : o.guard = none) (s x : Operand) (hop : o.op = Op.call { callee := Callee.builtin Builtin.append, args := #[s, x], argTypes := #[32, 32] })
    (B : Nat) (v : Value) (l : List Int) (ma : Option Addr) (m : List Int) (c : Nat) (hs : a.eval s = v) (hown : RowI w B v l) (hx : a.eval x = .slice ma m.length c) (hm : IntsAt w ma m) (h10 : l.length + m.length ≤ 1000000) (hB : B ≤ w.heap.size)
    (hK : ∀ v' w', RowI w' B v' (l ++ m) → w.grownBy w' v.ownBlock → (v'.ownBlock = v.ownBlock ∨ v'.ownBlock = some w.heap.size) → K (a.put o.dst v') w') :
    if Region.wanted o (yielded ops a.tmps) = true then Oper.wp Try.prog o a w K Q else E := by
  have hw : Region.wanted o (yielded ops a.tmps) = true := by simp [Region.wanted, hg]
  rw [if_pos hw]
  obtain ⟨i0, hi, hzz⟩ := Option.map_eq_some_iff.1 infoI
  simp only [Prod.mk.injEq] at hzz
  obtain ⟨hz0, hz1, hz2⟩ := hzz
  rcases ints_src (c := c) hm with ⟨e, hm0, _⟩ | ⟨ad, c', e, hl, hc, h1⟩
  · rw [e] at hx
    have em : m = [] := List.length_eq_zero_iff.1 hm0
    subst em
    have hrun := run_append_nil (P := Try.prog) (w := w) B 32 o.type 3 i0 1 Try.underlying32 hi v l.length (l.map (Value.int .i64)) c hown
    unfold Oper.wp
    simp [execOp, hop, resolve, invoke, builtin, hs, hx, hrun, Result.andThen]
    exact hK v w (by rw [List.append_nil]; exact hown) ⟨rfl, rfl, rfl, Nat.le_refl _, fun _ _ _ => rfl⟩ (.inl rfl)
  · rw [e] at hx
    obtain ⟨v', w', hrun, r1, r2, _, r4⟩ := run_append_own_at (P := Try.prog) w B 32 o.type 3 i0 _ 1 8 Try.underlying32 hi hz0 hz1 hz2 rfl (by decide) v l.length (l.map (Value.int .i64)) hown ad m.length c' (m.map (Value.int .i64)) hl hc h1 (by unfold maxLen; omega) (by omega) hB
    unfold Oper.wp
    simp [execOp, hop, resolve, invoke, builtin, hs, hx, hrun, Result.andThen]
    refine hK v' w' ?_ r2 r4
    unfold RowI
    rw [List.length_append, List.map_append]
    exact r1
theorem RowI.cells {W : World} {B : Nat} {v : Value} {ts : List Int} (h : RowI W B v ts) (h0 : 0 < ts.length) : ∃ g cap, v = .slice (some ⟨g, 0, none⟩) ts.length cap ∧ B ≤ g ∧ ∀ j, j < ts.length → W.cell? ⟨g, j, none⟩ = some (.int .i64 (ts.getD j 0)) := by
  rcases h.2 with ⟨hv, hn⟩ | ⟨g, cp, cur, hv, hb, _⟩
  · omega
  · subst hv
    refine ⟨g, cp, rfl, hb, fun j hj => ?_⟩
    rw [World.ownsRow.cellAt h j (by omega), List.getElem?_map, List.getD_eq_getElem?_getD, List.getElem?_eq_getElem hj]; rfl
end Go.Proofs.Ytjojempjmpaaaaa
