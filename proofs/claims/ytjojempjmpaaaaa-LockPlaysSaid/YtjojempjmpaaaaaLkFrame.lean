/-
  A TABLE OF LOCKS IN MEMORY: an act writes its own blocks alone.
-/
import Derived.Test.YtjojempjmpaaaaaLkQuitsP
import Derived.Test.YtjojempjmpaaaaaRefm2
namespace Go.Proofs.Ytjojempjmpaaaaa
open Go.RowKit
/-- A block that is none of the table's. -/
structure Nb (s : Lk) (T g : Nat) : Prop where
  t : g ≠ T
  k : ∀ k K, s.lk k = some K → g ≠ K
  x : ∀ i k x, i < 3 → x ∈ s.q i k → g ≠ x
theorem Nt.nb {s : Lk} {T g : Nat} (h : Nt s T g) : Nb s T g := ⟨h.t, h.k, h.x⟩
def HasC (W : World) (b : Nat) : Prop := ∃ i v, W.cell? ⟨b, i, none⟩ = some v
noncomputable def allP (s : Lk) (T : Nat) (W : World) (ex : Option Nat) : Nat → Option Obj := by
  classical exact fun b => if Nb s T b ∧ HasC W b ∧ ex ≠ some b then W.heap[b]? else none
section
variable {B : Nat} {W X : World} {T ml mh mw n n' : Nat} {s s1 : Lk} {ex : Option Nat} {b : Nat}
theorem allP_some {c : Obj} (e : allP s T W ex b = some c) : Nb s T b ∧ HasC W b ∧ W.heap[b]? = some c := by
  classical
  unfold allP at e
  split at e
  · rename_i q; exact ⟨q.1, q.2.1, e⟩
  · cases e
theorem LkAt.rideAll (h : LkAt B W T ml mh mw n s) (ex : Option Nat) : LkAt B W T ml mh mw n (withP s (allP s T W ex)) :=
  { h with ps := ⟨fun _ _ e => (allP_some e).2.2, fun _ _ e => (allP_some e).2.1, fun _ _ e => (allP_some e).1.t, fun _ _ k K e => (allP_some e).1.k k K, fun _ _ i k x e => (allP_some e).1.x i k x⟩ }
theorem LkAt.rodeAll (h : LkAt B X T ml mh mw n' s1) (hs : s1.pas = allP s T W ex) (hb : Nb s T b) (hc : HasC W b) (hx : ex ≠ some b) : X.heap[b]? = W.heap[b]? ∧ Nb s1 T b := by
  classical
  have hlt : b < W.heap.size := by
    obtain ⟨i, v, hv⟩ := hc
    exact block_lt (p := ⟨b, i, none⟩) hv
  have e : s1.pas b = some W.heap[b] := by
    rw [hs]
    unfold allP
    rw [if_pos ⟨hb, hc, hx⟩, Array.getElem?_eq_getElem hlt]
  exact ⟨(h.ps.pa b _ e).trans (Array.getElem?_eq_getElem hlt).symm, ⟨h.ps.pT b _ e, fun k K e2 => h.ps.pk b _ k K e e2, fun i k x hi hx => h.ps.px b _ i k x e hi hx⟩⟩
theorem allP_ex {g : Nat} : allP s T W (some g) g = none := by
  classical
  unfold allP
  rw [if_neg (fun q => q.2.2 rfl)]
end
/-- Behind so many acts, in memory, no passengers. -/
structure AcN (w0 wr : World) (T ml mh mw n : Nat) (s : Lk) (j : Nat) : Prop where
  t : LkAt w0.heap.size wr T ml mh mw n s
  a : Ac s n j
  bw : Below w0.heap.size w0 wr
  np : s.pas = fun _ => none
/-- All other blocks stay. -/
def FrN (s s' : Lk) (T : Nat) (ex : Option Nat) (W X : World) : Prop := ∀ b, Nb s T b → HasC W b → ex ≠ some b → X.heap[b]? = W.heap[b]? ∧ Nb s' T b
section
variable {w0 wr X : World} {T ml mh mw n j : Nat} {s s' : Lk} {o : Int} {k : ByteArray} {b : Bool}
theorem AcN.below (h : AcN w0 wr T ml mh mw n s j) (hb : Below wr.heap.size wr X) : AcN w0 X T ml mh mw n s j := ⟨h.t.below hb, h.a, h.bw.trans (hb.mono h.bw.size), h.np⟩
theorem frN_below (hb : Below wr.heap.size wr X) : FrN s s T none wr X := fun g hg ⟨i, _, hv⟩ _ => ⟨hb.block g (block_lt (p := ⟨g, i, none⟩) hv), hg⟩
theorem FrN.cell {ex : Option Nat} (h : FrN s s' T ex wr X) {g i : Nat} {v : Value} (hg : Nb s T g) (hx : ex ≠ some g) (hc : wr.cell? ⟨g, i, none⟩ = some v) : X.cell? ⟨g, i, none⟩ = some v :=
  (World.cell?_of_block (a := ⟨g, i, none⟩) (h g hg ⟨i, v, hc⟩ hx).1).trans hc
theorem FrN.rowq {ex : Option Nat} (h : FrN s s' T ex wr X) {v : Value} {l : List Wc} (hr : RowQ wr v l) (hg : 0 < l.length → ∀ g, v.ownBlock = some g → Nb s T g ∧ ex ≠ some g) : RowQ X v l ∧ (0 < l.length → ∀ g, v.ownBlock = some g → Nb s' T g) := by
  have key : ∀ g, v.ownBlock = some g → 0 < l.length → X.heap[g]? = wr.heap[g]? ∧ Nb s' T g := fun g e hl => by
    obtain ⟨_, u, hu⟩ := hr.lt hl g e
    exact h g (hg hl g e).1 ⟨0, u, hu⟩ (hg hl g e).2
  exact ⟨hr.of fun g e hl => (key g e hl).1, fun hl g e => (key g e hl).2⟩
theorem ask_n (h : AcN w0 wr T ml mh mw n s j) (hj : j ≤ 1000) (hk : k.size ≤ 100) (hwf : (Lit.int .i64 o).wf = true) :
    Calls Try.prog 12 #[.pointer (some ⟨T, 0, none⟩), .int .i64 o, .agg #[.string k, .bool b]] wr fun e W' => ∃ c s', e = .returned (.int .i64 c) ∧ AskR s o k b c s' ∧ AcN w0 W' T ml mh mw (n + 3) s' (j + 1) ∧ FrN s s' T none wr W' := by
  have hn := h.a.nb
  refine (ask_any (h.t.rideAll none) (h.a.g.c.withP _) hwf (by omega) (by omega)).mono ?_
  rintro e W' ⟨c, s1, rfl, hr, ht, hb⟩
  have hp1 : s1.pas = allP s T wr none := hr.pas
  have hr2 : AskR s o k b c (withP s1 s.pas) := hr.withP s.pas
  obtain ⟨a1, _⟩ := h.a.ask hr2 hk hwf
  refine ⟨c, withP s1 s.pas, rfl, hr2, ⟨ht.off s.pas (fun b c e => by rw [h.np] at e; cases e), a1, h.bw.trans hb, h.np⟩, fun b hb2 hc hx => ?_⟩
  obtain ⟨q1, q2⟩ := ht.rodeAll hp1 hb2 hc hx
  exact ⟨q1, ⟨q2.t, q2.k, q2.x⟩⟩
theorem quit_n (h : AcN w0 wr T ml mh mw n s j) (hj : j ≤ 1000) (hwf : (Lit.int .i64 o).wf = true) :
    Calls Try.prog 13 #[.pointer (some ⟨T, 0, none⟩), .int .i64 o] wr fun e W' => ∃ u ps n' s', e = .returned u ∧ RowI W' wr.heap.size u ps ∧ (ps = [] → u = .slice none 0 0) ∧ ((s.wt o = none ∧ s' = s ∧ ps = []) ∨ ∃ w, s.wt o = some w ∧ PassL (leftT s o) (keysL [(s.con w).k]) ps s') ∧ AcN w0 W' T ml mh mw n' s' (j + 1) ∧ FrN s s' T none wr W' ∧ (∀ g, u.ownBlock = some g → Nb s' T g) := by
  cases hw : s.wt o with
  | none =>
    refine (quit_no h.t hwf hw).mono fun e W' q => ?_
    obtain ⟨rfl, rfl⟩ := q
    exact ⟨_, [], n, s, rfl, World.ownsRow_nil _ _ _ _, fun _ => rfl, .inl ⟨rfl, rfl, rfl⟩, ⟨h.t, h.a.mono, h.bw, h.np⟩, frN_below (Below.refl _ _), fun g e => by cases e⟩
  | some w =>
    obtain ⟨c, h1, h2, h3⟩ := h.a.w
    refine (quit_yes (h.t.rideAll none) (h.a.g.c.withP _) hwf (w1 := w) hw (c := c) h1 (by omega)).mono ?_
    rintro e W' ⟨u, ps, s1, rfl, hr, h0, hp, ht, hn, hb⟩
    have hp1 : s1.pas = allP s T wr none := hp.pas
    have hp2 : PassL (leftT s o) (keysL [(s.con w).k]) ps (withP s1 s.pas) := hp.withP s.pas
    refine ⟨u, ps, _, _, rfl, hr, h0, .inr ⟨w, rfl, hp2⟩, ⟨ht.off s.pas (fun b c e => by rw [h.np] at e; cases e), (h.a.quit hw hp2).1, h.bw.trans hb, h.np⟩, fun b hb2 hc hx => ?_, fun g e2 => ?_⟩
    · obtain ⟨q1, q2⟩ := ht.rodeAll hp1 hb2 hc hx
      exact ⟨q1, ⟨q2.t, q2.k, q2.x⟩⟩
    · have n1 := hn g e2
      exact ⟨n1.t, n1.k, n1.x⟩
theorem free_n (h : AcN w0 wr T ml mh mw n s j) (hj : j ≤ 300) {g cap : Nat} {os : List Int} (hg : Nb s T g) (hcell : ∀ i, i < os.length → wr.cell? ⟨g, i, none⟩ = some (.int .i64 (os.getD i 0))) (h0 : 0 < os.length) (hwf : ∀ o, o ∈ os → (Lit.int .i64 o).wf = true) (hl : os.length ≤ 12) :
    Calls Try.prog 14 #[.pointer (some ⟨T, 0, none⟩), .slice (some ⟨g, 0, none⟩) os.length cap] wr fun e W' => ∃ u kl ps n' s', e = .returned u ∧ RowI W' wr.heap.size u ps ∧ (ps = [] → u = .slice none 0 0) ∧ PassL (goneL s os) (keysL kl) ps s' ∧ (∀ k, k ∉ kl → SameAt s (goneL s os) k) ∧ AcN w0 W' T ml mh mw n' s' (j + 1) ∧ FrN s s' T (some g) wr W' ∧ (∀ g, u.ownBlock = some g → Nb s' T g) := by
  obtain ⟨c, h1, h2, h3⟩ := h.a.w
  have hn := h.a.nb
  refine (free_all (h.t.rideAll (some g)) (h.a.g.c.withP _) (c := c) h1 (g := g) (cap := cap) (os := os) ⟨hg.t, hg.k, hg.x, allP_ex⟩ hcell h0 hwf (by omega) (by omega) (by omega)).mono ?_
  rintro e W' ⟨u, kl, ps, s1, rfl, hr, h0, hp, ht, hpas, hn, ho, hb⟩
  have hp1 : s1.pas = allP s T wr (some g) := hpas
  rw [goneL_withP] at hp
  have hq : withP (withP (goneL s os) (allP s T wr (some g))) s.pas = goneL s os := by
    have := (goneL_all (os := os) h.a.g.c).2.2.2.1
    rw [← this]; rfl
  have hp2 := hp.withP s.pas
  rw [hq] at hp2
  have ho2 : ∀ k, k ∉ kl → SameAt s (goneL s os) k := fun k hk => by
    have := ho k hk
    rw [goneL_withP] at this
    exact ⟨this.q, this.c, this.l⟩
  refine ⟨u, kl, ps, _, _, rfl, hr, h0, hp2, ho2, ⟨ht.off s.pas (fun b c e => by rw [h.np] at e; cases e), h.a.free hl hp2 ho2, h.bw.trans hb, h.np⟩, fun b hb2 hc hx => ?_, fun g' e2 => ?_⟩
  · obtain ⟨q1, q2⟩ := ht.rodeAll hp1 hb2 hc hx
    exact ⟨q1, ⟨q2.t, q2.k, q2.x⟩⟩
  · have n1 := hn g' e2
    exact ⟨n1.t, n1.k, n1.x⟩
end
end Go.Proofs.Ytjojempjmpaaaaa
