/-
  A POOL, A BLOCK OF ITS OWN WRITTEN: a frame's page, a frame's first, a new frame, a frame less.
-/
import Derived.Test.YtpkbopeddhgnlaaGreatDoorPlBase
namespace Go.Proofs.YtpkbopeddhgnlaaGreatDoor
open Go.RowKit
theorem dev_write {W X : World} {D P L M n k b : Nat} {off : Bool} {uses : Int} {armed : Bool} {left : Int} {las : List (List UInt8)} {f : Int → Option (List UInt8)} (h : Dv.DevAt W D P L M n k off uses armed left las f) (hg : W.grownBy X (some b)) (h1 : b ≠ D) (h2 : b ≠ P) (h3 : b ≠ L) (h4 : b ≠ M) : Dv.DevAt X D P L M n k off uses armed left las f := by
  have key : ∀ c, c < W.heap.size → b ≠ c → X.heap[c]? = W.heap[c]? := fun c hc hx => hg.block c hc (by intro e; injection e with e; exact hx e.symm)
  have kD := key D (Dv.block_lt h.d0) h1
  have kP := key P (Dv.block_lt h.p0) h2
  exact { h with
    d0 := (World.cell?_of_block (a := ⟨D, 0, none⟩) kD).trans h.d0
    d1 := (World.cell?_of_block (a := ⟨D, 1, none⟩) kD).trans h.d1
    d2 := (World.cell?_of_block (a := ⟨D, 2, none⟩) kD).trans h.d2
    p0 := (World.cell?_of_block (a := ⟨P, 0, none⟩) kP).trans h.p0
    p1 := (World.cell?_of_block (a := ⟨P, 1, none⟩) kP).trans h.p1
    p2 := (World.cell?_of_block (a := ⟨P, 2, none⟩) kP).trans h.p2
    p3 := (World.cell?_of_block (a := ⟨P, 3, none⟩) kP).trans h.p3
    pf := fun i => (World.frozen?_of_block (a := ⟨P, i, none⟩) kP).trans (h.pf i)
    lb := (key L (Dv.blk_lt h.lb) h3).trans h.lb
    mp := h.mp.kept hg (by intro e; injection e with e; exact h4 e.symm) }
section
variable {w W X : World} {D P L M n B T np Q room MF k : Nat} {now : Nat → Pg} {o : Int → Option Nat} {fv : Int → FrD} {pm : Pm}
theorem Tk.write {b : Nat} (h : Tk w W D P L M n B T np now pm) (hg : W.grownBy X (some b)) (h1 : b ≠ D) (h2 : b ≠ P) (h3 : b ≠ L) (h4 : b ≠ M) (h5 : b ≠ T) (hl : w.heap.size ≤ b) : Tk w X D P L M n B T np now pm := by
  obtain ⟨s, h6, h7, h8⟩ := h
  obtain ⟨kk, off, uses, armed, left, las, hd, r⟩ := h6.d
  have key : ∀ c, c < W.heap.size → b ≠ c → X.heap[c]? = W.heap[c]? := fun c hc hx => hg.block c hc (by intro e; injection e with e; exact hx e.symm)
  have kT := key T (Dv.block_lt h6.t0) h5
  exact ⟨s, { h6 with
    d := ⟨kk, off, uses, armed, left, las, dev_write hd hg h1 h2 h3 h4, r⟩
    t0 := (World.cell?_of_block (a := ⟨T, 0, none⟩) kT).trans h6.t0
    t1 := (World.cell?_of_block (a := ⟨T, 1, none⟩) kT).trans h6.t1
    bw := h6.bw.grown hg h6.bw.size (fun k hk => by cases hk; exact hl) }, h7, h8⟩
theorem Tk.cells (h : Tk w W D P L M n B T np now pm) : (∃ v, W.cell? ⟨D, 0, none⟩ = some (.pointer v)) ∧ ∃ v, W.cell? ⟨T, 0, none⟩ = some (.pointer v) := by
  obtain ⟨s, h6, _⟩ := h
  exact ⟨⟨_, h6.d.d0⟩, ⟨_, h6.t0⟩⟩
/-- A frame's block is neither the device's nor the pages'. -/
theorem PlS.fne (h : PlS w W D P L M n B T np now Q room MF k o fv) {i : Int} {F : Nat} (e : o i = some F) : F ≠ D ∧ F ≠ T := by
  obtain ⟨⟨v1, h1⟩, ⟨v2, h2⟩⟩ := h.tk.cells
  have hp := (h.fr i F e).p.p0
  constructor
  · intro x; subst x; rw [h1] at hp; cases hp
  · intro x; subst x; rw [h2] at hp; cases hp
theorem map_ne {M' b : Nat} {k' : Nat} {o' : Int → Option Nat} {v : Value} (h : FrAt W M' k' o') (hc : W.cell? ⟨b, 0, none⟩ = some v) : M' ≠ b := by
  rintro rfl
  obtain ⟨D0, ⟨es, clock, hb, _⟩, _⟩ := h
  simp [World.cell?, hb] at hc
def updV (f : Int → FrD) (i : Int) (x : FrD) : Int → FrD := fun j => if j = i then x else f j
/-- A frame's block is written: what its new frame is, is told. -/
theorem PlS.put {no : Int} {F : Nat} {x : FrD} (h : PlS w W D P L M n B T np now Q room MF k o fv) (e : o no = some F) (hg : W.grownBy X (some F)) (hx : FrIs X F no x) (hr : x.v.ownBlock = (fv no).v.ownBlock ∨ ∀ r, x.v.ownBlock = some r → (r ≠ P ∧ r ≠ L ∧ r ≠ M ∧ r ≠ Q ∧ r ≠ MF) ∧ ∀ j F', o j = some F' → r ≠ F') :
    PlS w X D P L M n B T np now Q room MF k o (updV fv no x) := by
  obtain ⟨l1, l2, l3⟩ := h.lts
  obtain ⟨f1, f2, f3, f4, f5⟩ := h.fs no F e
  obtain ⟨f6, f7⟩ := h.fne e
  have key : ∀ c, c < W.heap.size → F ≠ c → X.heap[c]? = W.heap[c]? := fun c hc hx => hg.block c hc (by intro e; injection e with e; exact hx e.symm)
  have hQ := key Q l1 f4
  exact { h with
    tk := h.tk.write hg f6 f1 f2 f3 f7 (h.lo.2.2 no F e)
    q0 := (World.cell?_of_block (a := ⟨Q, 0, none⟩) hQ).trans h.q0
    q1 := (World.cell?_of_block (a := ⟨Q, 1, none⟩) hQ).trans h.q1
    q2 := (World.cell?_of_block (a := ⟨Q, 2, none⟩) hQ).trans h.q2
    mp := h.mp.of_block (key MF l2 f5)
    fr := fun i F' e' => by
      unfold updV
      by_cases hi : i = no
      · subst hi
        rw [if_pos rfl]
        rw [e] at e'; injection e' with e'; subst e'
        exact hx
      · rw [if_neg hi]
        have hne : F ≠ F' := fun q => hi (h.inj i no F' e' (q ▸ e))
        exact (h.fr i F' e').of_blocks (key F' (l3 i F' e') hne) (fun r hr => key r (row_lt (h.fr i F' e').row hr) (fun q => (h.rs i F' r e' hr).2 no F e q.symm))
    rs := fun i F' r e' hr' => by
      unfold updV at hr'
      by_cases hi : i = no
      · subst hi
        rw [if_pos rfl] at hr'
        rcases hr with hr | hr
        · rw [hr] at hr'; exact h.rs i F' r e' hr'
        · exact hr r hr'
      · rw [if_neg hi] at hr'; exact h.rs i F' r e' hr' }
/-- A frame more. -/
theorem PlS.new {no : Int} {F k' : Nat} {x : FrD} (h : PlS w W D P L M n B T np now Q room MF k o fv) (hn : o no = none) (hg : W.grownBy X (some MF)) (hm : FrAt X MF k' (updF o no (some F))) (hF : FrIs W F no x) (hb : w.heap.size ≤ F) (hk : 0 ≤ no ∧ no < (np : Int))
    (h1 : F ≠ P ∧ F ≠ L ∧ F ≠ M ∧ F ≠ Q) (h2 : ∀ i, o i ≠ some F) (hr : ∀ r, x.v.ownBlock = some r → r ≠ P ∧ r ≠ L ∧ r ≠ M ∧ r ≠ Q ∧ r ≠ F ∧ ∀ j F', o j = some F' → r ≠ F') (hr2 : ∀ i F' r, o i = some F' → (fv i).v.ownBlock = some r → r ≠ F) : PlS w X D P L M n B T np now Q room MF k' (updF o no (some F)) (updV fv no x) := by
  obtain ⟨l1, l2, l3⟩ := h.lts
  obtain ⟨⟨v1, c1⟩, ⟨v2, c2⟩⟩ := h.tk.cells
  have mD := map_ne h.mp c1
  have mT := map_ne h.mp c2
  have mF := map_ne h.mp hF.p.p0
  have key : ∀ c, c < W.heap.size → MF ≠ c → X.heap[c]? = W.heap[c]? := fun c hc hx => hg.block c hc (by intro e; injection e with e; exact hx e.symm)
  have hQ := key Q l1 (fun e => h.qs.2.2.2 e.symm)
  have row_ne : ∀ {r : Nat} {y : FrD}, RowC W 0 y.v y.l → y.v.ownBlock = some r → MF ≠ r := fun {r y} hrow hr q => by
    subst q
    rcases hrow.2 with ⟨hv, _⟩ | ⟨g, cap, cur, hv, _, hc, _⟩
    · rw [hv] at hr; cases hr
    · rw [hv] at hr
      have : g = MF := by simpa [Value.ownBlock] using hr
      subst this
      obtain ⟨D0, ⟨es, clock, hb, _⟩, _⟩ := h.mp
      rw [hc] at hb; cases hb
  have hcase : ∀ i F', updF o no (some F) i = some F' → (i = no ∧ F' = F) ∨ (i ≠ no ∧ o i = some F') := fun i F' e => by
    unfold updF at e; split at e
    · rename_i q; injection e with e; exact .inl ⟨q, e.symm⟩
    · rename_i q; exact .inr ⟨q, e⟩
  exact { h with
    tk := h.tk.write hg mD h.ms.1 h.ms.2.1 h.ms.2.2 mT h.lo.2.1
    q0 := (World.cell?_of_block (a := ⟨Q, 0, none⟩) hQ).trans h.q0
    q1 := (World.cell?_of_block (a := ⟨Q, 1, none⟩) hQ).trans h.q1
    q2 := (World.cell?_of_block (a := ⟨Q, 2, none⟩) hQ).trans h.q2
    mp := hm
    fr := fun i F' e' => by
      unfold updV
      rcases hcase i F' e' with ⟨rfl, rfl⟩ | ⟨hi, e⟩
      · rw [if_pos rfl]
        exact hF.of_blocks (key F' hF.p.lt mF) (fun r q => key r (row_lt hF.row q) (row_ne hF.row q))
      · rw [if_neg hi]
        exact (h.fr i F' e).of_blocks (key F' (l3 i F' e) (fun q => (h.fs i F' e).2.2.2.2 q.symm)) (fun r q => key r (row_lt (h.fr i F' e).row q) (row_ne (h.fr i F' e).row q))
    fs := fun i F' e' => by
      rcases hcase i F' e' with ⟨rfl, rfl⟩ | ⟨hi, e⟩
      · exact ⟨h1.1, h1.2.1, h1.2.2.1, h1.2.2.2, fun q => mF q.symm⟩
      · exact h.fs i F' e
    rs := fun i F' r e' hr' => by
      unfold updV at hr'
      rcases hcase i F' e' with ⟨rfl, rfl⟩ | ⟨hi, e⟩
      · rw [if_pos rfl] at hr'
        obtain ⟨a1, a2, a3, a4, a5, a6⟩ := hr r hr'
        refine ⟨⟨a1, a2, a3, a4, fun q => row_ne hF.row hr' q.symm⟩, fun j F'' q => ?_⟩
        rcases hcase j F'' q with ⟨_, rfl⟩ | ⟨_, q⟩
        · exact a5
        · exact a6 j F'' q
      · rw [if_neg hi] at hr'
        refine ⟨(h.rs i F' r e hr').1, fun j F'' q => ?_⟩
        rcases hcase j F'' q with ⟨_, rfl⟩ | ⟨_, q⟩
        · exact hr2 i F' r e hr'
        · exact (h.rs i F' r e hr').2 j F'' q
    inj := fun i j F' e1 e2 => by
      rcases hcase i F' e1 with ⟨rfl, rfl⟩ | ⟨q1, e1⟩ <;> rcases hcase j _ e2 with ⟨q3, q4⟩ | ⟨q2, e2⟩
      · exact q3.symm
      · exact absurd e2 (h2 j)
      · rw [q4] at e1; exact absurd e1 (h2 i)
      · exact h.inj i j F' e1 e2
    lo := ⟨h.lo.1, h.lo.2.1, fun i F' e' => by
      rcases hcase i F' e' with ⟨rfl, rfl⟩ | ⟨_, e⟩
      · exact hb
      · exact h.lo.2.2 i F' e⟩
    keys := fun i e' => by
      unfold updF at e'; split at e'
      · rename_i q; rw [q]; exact hk
      · exact h.keys i e' }
/-- A block that is none of a pool's is written. -/
theorem PlS.other {b : Nat} (h : PlS w W D P L M n B T np now Q room MF k o fv) (hg : W.grownBy X (some b)) (hne : b ≠ P ∧ b ≠ L ∧ b ≠ M) (hc : ∃ z, W.cell? ⟨b, 0, none⟩ = some (.int .i64 z)) (hF : ∀ i F, o i = some F → F ≠ b) (hr : ∀ i F r, o i = some F → (fv i).v.ownBlock = some r → r ≠ b) (hl : w.heap.size ≤ b) : PlS w X D P L M n B T np now Q room MF k o fv := by
  obtain ⟨l1, l2, l3⟩ := h.lts
  obtain ⟨⟨v1, c1⟩, ⟨v2, c2⟩⟩ := h.tk.cells
  obtain ⟨z, hz⟩ := hc
  have nD : b ≠ D := by rintro rfl; rw [c1] at hz; cases hz
  have nT : b ≠ T := by rintro rfl; rw [c2] at hz; cases hz
  have nQ : b ≠ Q := by rintro rfl; have := h.q0; rw [this] at hz; cases hz
  have nM := map_ne h.mp hz
  have key : ∀ c, c < W.heap.size → b ≠ c → X.heap[c]? = W.heap[c]? := fun c hc hx => hg.block c hc (by intro e; injection e with e; exact hx e.symm)
  have hQ := key Q l1 nQ
  exact { h with
    tk := h.tk.write hg nD hne.1 hne.2.1 hne.2.2 nT hl
    q0 := (World.cell?_of_block (a := ⟨Q, 0, none⟩) hQ).trans h.q0
    q1 := (World.cell?_of_block (a := ⟨Q, 1, none⟩) hQ).trans h.q1
    q2 := (World.cell?_of_block (a := ⟨Q, 2, none⟩) hQ).trans h.q2
    mp := h.mp.of_block (key MF l2 (fun e => nM e.symm))
    fr := fun i F e => (h.fr i F e).of_blocks (key F (l3 i F e) (fun q => hF i F e q.symm)) (fun r hr' => key r (row_lt (h.fr i F e).row hr') (fun q => hr i F r e hr' q.symm)) }
end
end Go.Proofs.YtpkbopeddhgnlaaGreatDoor
