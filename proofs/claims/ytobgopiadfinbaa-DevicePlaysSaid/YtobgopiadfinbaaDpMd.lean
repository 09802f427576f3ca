/-
  LAW 05's MODEL IN MEMORY: a device as the document has it, a power; what was left alone.
-/
import Derived.Test.YtobgopiadfinbaaDpQ2
import Derived.Test.YtobgopiadfinbaaDpWith
namespace Go.Proofs.Ytobgopiadfinbaa
open Go.RowKit
/-- All blocks but these. -/
structure Ch (W X : World) (S : List Nat) : Prop where
  os : X.os = W.os
  tape : X.tape = W.tape
  output : X.output = W.output
  size : W.heap.size ≤ X.heap.size
  block : ∀ k, k < W.heap.size → k ∉ S → X.heap[k]? = W.heap[k]?
section
variable {W X Y : World} {S : List Nat}
theorem Ch.refl (W : World) (S : List Nat) : Ch W W S := ⟨rfl, rfl, rfl, Nat.le_refl _, fun _ _ _ => rfl⟩
theorem Ch.of_below (h : Below W.heap.size W X) : Ch W X S := ⟨h.os, h.tape, h.output, h.size, fun k hk _ => h.block k hk⟩
theorem Ch.trans (h : Ch W X S) (g : Ch X Y S) : Ch W Y S := ⟨g.os.trans h.os, g.tape.trans h.tape, g.output.trans h.output, Nat.le_trans h.size g.size, fun k hk hn => (g.block k (Nat.lt_of_lt_of_le hk h.size) hn).trans (h.block k hk hn)⟩
theorem Ch.set {g i : Nat} {v : Value} (h : Ch W X S) (hg : g ∈ S ∨ W.heap.size ≤ g) : Ch W (X.setCell ⟨g, i, none⟩ v) S := by
  have hb := Lib.grownBy_setCell X g i v
  refine ⟨hb.os.trans h.os, hb.tape.trans h.tape, hb.output.trans h.output, Nat.le_trans h.size hb.size, fun k hk hn => (hb.block k (Nat.lt_of_lt_of_le hk h.size) (fun e => ?_)).trans (h.block k hk hn)⟩
  injection e with e
  rcases hg with q | q
  · exact hn (e ▸ q)
  · omega
theorem Ch.of_fr3 {P L M : Nat} (h : Fr3 P L M W X) (hS : P ∈ S ∧ L ∈ S ∧ M ∈ S) : Ch W X S := ⟨h.os, h.tape, h.output, h.size, fun k hk hn => h.block k hk (fun e => hn (e ▸ hS.1)) (fun e => hn (e ▸ hS.2.1)) (fun e => hn (e ▸ hS.2.2))⟩
theorem Ch.sub {S' : List Nat} (h : Ch W X S) (hs : ∀ k, k ∈ S → k ∈ S' ∨ W.heap.size ≤ k) : Ch W X S' := ⟨h.os, h.tape, h.output, h.size, fun k hk hn => h.block k hk (fun c => by
  rcases hs k c with q | q
  · exact hn q
  · omega)⟩
theorem Ch.below {B : Nat} (h : Ch W X S) (hB : B ≤ W.heap.size) (hS : ∀ k ∈ S, B ≤ k) : Below B W X := ⟨h.os, h.tape, h.output, h.size, fun k hk => h.block k (Nat.lt_of_lt_of_le hk hB) (fun c => by have := hS k c; omega)⟩
theorem Ch.cell {g i : Nat} {v : Value} (h : Ch W X S) (hc : W.cell? ⟨g, i, none⟩ = some v) (hg : g ∉ S) : X.cell? ⟨g, i, none⟩ = some v :=
  (World.cell?_of_block (a := ⟨g, i, none⟩) (h.block g (block_lt (p := ⟨g, i, none⟩) hc) hg)).trans hc
theorem Ch.frz {g i : Nat} (h : Ch W X S) (hc : W.frozen? ⟨g, i, none⟩ = false) (hg : g ∉ S) (hl : g < W.heap.size) : X.frozen? ⟨g, i, none⟩ = false :=
  (World.frozen?_of_block (a := ⟨g, i, none⟩) (h.block g hl hg)).trans hc
end
/-! ### the power -/
/-- The model's power: left as the model counts it. -/
structure PwAt (W : World) (PB : Nat) (off ar : Bool) (lm u : Int) : Prop where
  c0 : W.cell? ⟨PB, 0, none⟩ = some (.bool off)
  c1 : W.cell? ⟨PB, 1, none⟩ = some (.bool ar)
  c2 : W.cell? ⟨PB, 2, none⟩ = some (.int .i64 lm)
  c3 : W.cell? ⟨PB, 3, none⟩ = some (.int .i64 u)
  fz : ∀ i, W.frozen? ⟨PB, i, none⟩ = false
section
variable {W X : World} {PB : Nat} {off ar : Bool} {lm u : Int} {S : List Nat}
theorem PwAt.lt (h : PwAt W PB off ar lm u) : PB < W.heap.size := block_lt (p := ⟨PB, 0, none⟩) h.c0
theorem PwAt.ch (h : PwAt W PB off ar lm u) (hc : Ch W X S) (hg : PB ∉ S) : PwAt X PB off ar lm u :=
  ⟨hc.cell h.c0 hg, hc.cell h.c1 hg, hc.cell h.c2 hg, hc.cell h.c3 hg, fun i => hc.frz (h.fz i) hg h.lt⟩
theorem PwAt.below (h : PwAt W PB off ar lm u) (hb : Below W.heap.size W X) : PwAt X PB off ar lm u := h.ch (S := []) (Ch.of_below hb) (by simp)
theorem setCell_at {g i j : Nat} {v w : Value} (h : W.cell? ⟨g, j, none⟩ = some w) (hne : i ≠ j) : (W.setCell ⟨g, i, none⟩ v).cell? ⟨g, j, none⟩ = some w := by
  rw [World.cell?_setCell_other _ _ _ _ (fun e => by injection e with _ e; exact hne e)]; exact h
theorem PwAt.setOff (h : PwAt W PB off ar lm u) (b : Bool) : PwAt (W.setCell ⟨PB, 0, none⟩ (.bool b)) PB b ar lm u :=
  ⟨World.cell?_setCell_same _ _ _ h.c0, setCell_at h.c1 (by decide), setCell_at h.c2 (by decide), setCell_at h.c3 (by decide), fun i => by rw [World.frozen?_setCell]; exact h.fz i⟩
theorem PwAt.setAr (h : PwAt W PB off ar lm u) (b : Bool) : PwAt (W.setCell ⟨PB, 1, none⟩ (.bool b)) PB off b lm u :=
  ⟨setCell_at h.c0 (by decide), World.cell?_setCell_same _ _ _ h.c1, setCell_at h.c2 (by decide), setCell_at h.c3 (by decide), fun i => by rw [World.frozen?_setCell]; exact h.fz i⟩
theorem PwAt.setLm (h : PwAt W PB off ar lm u) (z : Int) : PwAt (W.setCell ⟨PB, 2, none⟩ (.int .i64 z)) PB off ar z u :=
  ⟨setCell_at h.c0 (by decide), setCell_at h.c1 (by decide), World.cell?_setCell_same _ _ _ h.c2, setCell_at h.c3 (by decide), fun i => by rw [World.frozen?_setCell]; exact h.fz i⟩
theorem PwAt.setU (h : PwAt W PB off ar lm u) (z : Int) : PwAt (W.setCell ⟨PB, 3, none⟩ (.int .i64 z)) PB off ar lm z :=
  ⟨setCell_at h.c0 (by decide), setCell_at h.c1 (by decide), setCell_at h.c2 (by decide), World.cell?_setCell_same _ _ _ h.c3, fun i => by rw [World.frozen?_setCell]; exact h.fz i⟩
/-- The model's power goes with the device's. -/
structure PwR (W : World) (PB c : Nat) (p : Pn) : Prop where
  ex : ∃ lm, PwAt W PB p.off p.ar lm p.u ∧ (p.ar = true → p.off = false → lm = p.lf) ∧ -(c : Int) ≤ lm ∧ lm ≤ 9223372036854775807
  u : 0 ≤ p.u ∧ p.u ≤ (c : Int)
theorem PwR.ch {c : Nat} {p : Pn} (h : PwR W PB c p) (hc : Ch W X S) (hg : PB ∉ S) : PwR X PB c p := by
  obtain ⟨⟨lm, h1, h2⟩, h3⟩ := h
  exact ⟨⟨lm, h1.ch hc hg, h2⟩, h3⟩
set_option maxRecDepth 100000 in
theorem puse_any {c : Nat} {p : Pn} (h : PwR W PB c p) (hc : c ≤ 1000) :
    Calls Try.prog 18 #[.pointer (some ⟨PB, 0, none⟩)] W fun e w' => e = .returned (.bool p.use.1) ∧ PwR w' PB (c + 1) p.use.2 ∧ Ch W w' [PB] := by
  obtain ⟨⟨lm, h1, h2, h3, h4⟩, h5⟩ := h
  obtain ⟨off, ar, u, lf⟩ := p
  simp only at h1 h2 h5
  rcases use_cases ⟨off, ar, u, lf⟩ with ⟨rfl, e⟩ | ⟨rfl, rfl, rfl, e⟩ | ⟨rfl, hne, e⟩
  · rw [e]
    have P0 : Hid (PwR W PB (c + 1) ⟨true, ar, u, lf⟩) := ⟨⟨lm, h1, fun _ e => by (cases e), by omega, h4⟩, by simp only; omega⟩
    have c0 := h1.c0
    clear h1 h2 h3 h4 h5 e
    go_enter Try.func18, Try.ntmps18
    go_wp2
    go_ret
    exact ⟨rfl, P0.out, Ch.refl _ _⟩
  · rw [e]
    obtain rfl : lm = 0 := h2 rfl rfl
    have A1 := h1.setU (u + 1)
    have A2 := A1.setOff true
    have P0 : Hid (PwR ((W.setCell ⟨PB, 3, none⟩ (.int .i64 (u + 1))).setCell ⟨PB, 0, none⟩ (.bool true)) PB (c + 1) ⟨true, true, u + 1, -1⟩) := ⟨⟨0, A2, fun _ e => by (cases e), by omega, by omega⟩, by simp only; omega⟩
    have F0 : Hid (Ch W ((W.setCell ⟨PB, 3, none⟩ (.int .i64 (u + 1))).setCell ⟨PB, 0, none⟩ (.bool true)) [PB]) := ((Ch.refl W [PB]).set (.inl (by simp))).set (.inl (by simp))
    have hw : IntKind.i64.wrap (u + 1) = u + 1 := by rw [IntKind.wrap_i64]; omega
    have c0 := h1.c0
    have c3 := h1.c3
    have d0 := A1.c0
    have d1 := A1.c1
    have d2 := A1.c2
    have hf := h1.fz
    clear h1 h2 h3 h4 h5 e A1 A2
    go_enter Try.func18, Try.ntmps18
    go_wp2
    go_ret
    exact ⟨rfl, P0.out, F0.out⟩
  · rw [e]
    have A1 := h1.setU (u + 1)
    have A2 := A1.setLm (lm - 1)
    have hl0 : ar = true → ¬ lm = 0 := fun ha => by
      rw [h2 ha rfl]
      exact hne ha
    have P0 : Hid (PwR ((W.setCell ⟨PB, 3, none⟩ (.int .i64 (u + 1))).setCell ⟨PB, 2, none⟩ (.int .i64 (lm - 1))) PB (c + 1) ⟨false, ar, u + 1, nl ar lf⟩) := ⟨⟨lm - 1, A2, fun ha _ => by
      have hh := h2 ha rfl
      show lm - 1 = nl ar lf
      simp only at ha
      unfold nl
      rw [if_pos ha, hh], by omega, by omega⟩, by simp only; omega⟩
    have F0 : Hid (Ch W ((W.setCell ⟨PB, 3, none⟩ (.int .i64 (u + 1))).setCell ⟨PB, 2, none⟩ (.int .i64 (lm - 1))) [PB]) := ((Ch.refl W [PB]).set (.inl (by simp))).set (.inl (by simp))
    have hw : IntKind.i64.wrap (u + 1) = u + 1 := by rw [IntKind.wrap_i64]; omega
    have hw2 : IntKind.i64.wrap (lm - 1) = lm - 1 := by rw [IntKind.wrap_i64]; omega
    have c0 := h1.c0
    have c3 := h1.c3
    have d1 := A1.c1
    have d2 := A1.c2
    have hf := h1.fz
    clear h1 h2 h3 h4 h5 e A1 A2 hne
    cases ar
    · clear hl0
      go_enter Try.func18, Try.ntmps18
      go_wp2
      go_ret
      exact ⟨rfl, P0.out, F0.out⟩
    · have hlm := hl0 rfl
      clear hl0
      go_enter Try.func18, Try.ntmps18
      go_wp2
      go_ret
      exact ⟨rfl, P0.out, F0.out⟩
end
end Go.Proofs.Ytobgopiadfinbaa
