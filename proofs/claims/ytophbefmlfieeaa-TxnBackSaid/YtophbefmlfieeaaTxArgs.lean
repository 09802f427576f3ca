/-
  ARGUMENTS OPENED: a slice of records.
-/
import Derived.Test.YtophbefmlfieeaaTxOpen
import Derived.Test.YtophbefmlfieeaaTxTab
import Derived.Deep.Slices
import Derived.Deep.Fields
namespace Go.Proofs.Ytophbefmlfieeaa
open Go.ChangeShapes Go.WideShapes Go.ChangeAt Go.RowKit
section
variable {H : Type} {enc : TypeId × Value → H} {W : World} {n : Nat}
theorem rc_cells : Try.prog.cellsOf 38 = 11 := by kernel_rfl
theorem list11 {α : Type} {cs : List α} (h : cs.length = 11) : ∃ c0 c1 c2 c3 c4 c5 c6 c7 c8 c9 c10, cs = [c0, c1, c2, c3, c4, c5, c6, c7, c8, c9, c10] := by
  match cs, h with
  | [c0, c1, c2, c3, c4, c5, c6, c7, c8, c9, c10], _ => exact ⟨c0, c1, c2, c3, c4, c5, c6, c7, c8, c9, c10, rfl⟩
/-- Its numbers are numbers. -/
def RcWf (r : Rc) : Prop := (Lit.int .i64 r.k).wf = true ∧ (Lit.int .i64 r.g).wf = true ∧ (Lit.int .i64 r.t).wf = true ∧ (Lit.int .i64 r.p).wf = true ∧ (Lit.int .i64 r.pg).wf = true ∧ (Lit.int .i64 r.u).wf = true
set_option maxHeartbeats 1000000 in
set_option maxRecDepth 100000 in
theorem rc_one {cs : List Value} {y : DataW H × List MemPlace} (hl : cs.length = 11) (h : DataW.trod enc Try.prog W 0 (fun _ => true) true n 38 cs = some y) :
    ∃ r : Rc, cs = r.cells ∧ RcWf r := by
  obtain ⟨c0, c1, c2, c3, c4, c5, c6, c7, c8, c9, c10, rfl⟩ := list11 hl
  obtain ⟨xs, m, _, _, _, hlen, hx⟩ := DataW.trod_struct Try.underlying38 h
  match xs, hlen with
  | [y0, y1, y2, y3, y4, y5, y6, y7, y8], _ =>
    have t0 := hx 0 _ rfl
    have t1 := hx 1 _ rfl
    have t2 := hx 2 _ rfl
    have t3 := hx 3 _ rfl
    have t4 := hx 4 _ rfl
    have t5 := hx 5 _ rfl
    have t6 := hx 6 _ rfl
    have t7 := hx 7 _ rfl
    have t8 := hx 8 _ rfl
    obtain ⟨k, rfl, w0⟩ := int_one (c := c0) t0
    obtain ⟨g, rfl, w1⟩ := int_one (c := c1) t1
    obtain ⟨t, rfl, w2⟩ := int_one (c := c2) t2
    obtain ⟨pr, rfl, w3⟩ := int_one (c := c3) t3
    obtain ⟨pg, rfl, w4⟩ := int_one (c := c4) t4
    obtain ⟨key, rfl, w5⟩ := str_one (c := c5) t5
    obtain ⟨hb, sb, rfl, rfl, w6⟩ := val_two (c := c6) (d := c7) t6
    obtain ⟨ha, sa, rfl, rfl, w7⟩ := val_two (c := c8) (d := c9) t7
    obtain ⟨u, rfl, w8⟩ := int_one (c := c10) t8
    exact ⟨⟨k, g, t, pr, pg, key, hb, sb, ha, sa, u⟩, rfl, w0, w1, w2, w3, w4, w8⟩
theorem rclist_of {P : Nat → Rc → Prop} (m : Nat) (h : ∀ i, i < m → ∃ x, P i x) : ∃ L : List Rc, L.length = m ∧ ∀ i, i < m → P i (L.getD i noRc) := by
  induction m with
  | zero => exact ⟨[], rfl, fun i hi => by omega⟩
  | succ m ih =>
    obtain ⟨L, hl, hp⟩ := ih (fun i hi => h i (by omega))
    obtain ⟨x, hx⟩ := h m (by omega)
    refine ⟨L ++ [x], by simp [hl], fun i hi => ?_⟩
    rw [List.getD_eq_getElem?_getD]
    by_cases e : i < m
    · rw [List.getElem?_append_left (by omega), ← List.getD_eq_getElem?_getD]; exact hp i e
    · have : i = m := by omega
      subst this
      rw [List.getElem?_append_right (by omega), hl]; simpa using hx
set_option maxRecDepth 100000 in
theorem rcs_open {base : Nat} {v : Value} {d : DataW H} {p : List MemPlace} (hv : Value.okWide Try.prog W .any base 29 v) (h : DataW.Trod enc Try.prog W 0 (fun _ => true) true 29 v d p) :
    ∃ (a : Option Addr) (L : List Rc) (cap : Nat), v = .slice a L.length cap ∧ L.length ≤ maxLen ∧ RcsAt W a L ∧ ∀ i, i < L.length → RcWf (L.getD i noRc) := by
  obtain ⟨a0, len, cap, rfl⟩ := okWide_slice Try.underlying29 hv
  obtain ⟨fuel, hf⟩ := h
  rcases Go.Deep.open_slice Try.underlying29 hf with ⟨hcs, _⟩ | ⟨a, len', cap', m, k, D, Pl, hcs, _, hl, hm, hmm, _, hi⟩
  · simp [Value.cells] at hcs
    obtain ⟨rfl, rfl, rfl⟩ := hcs
    exact ⟨none, [], 0, rfl, by simp, .inl rfl, by simp⟩
  · simp [Value.cells] at hcs
    obtain ⟨rfl, rfl, rfl⟩ := hcs
    simp only [if_true] at hmm
    rw [rc_cells] at hi
    by_cases h0 : len = 0
    · subst h0
      exact ⟨some a, [], cap, rfl, by simp, .inl rfl, by simp⟩
    · have hone : ∀ i, i < len → ∃ r : Rc, (∀ j u, r.cells[j]? = some u → W.cell? ((a.add (i * 11)).add j) = some u) ∧ RcWf r := fun i hil => by
        obtain ⟨cs', hc, ht⟩ := hi i (by omega)
        obtain ⟨_, hcl, hat⟩ := World.cells?_some hc
        obtain ⟨x, hx, hw⟩ := rc_one hcl ht
        refine ⟨x, fun j u hj => ?_, hw⟩
        have hjl : j < 11 := by
          obtain ⟨hlt, _⟩ := List.getElem?_eq_some_iff.1 hj
          simpa [Rc.cells] using hlt
        rw [hat j hjl, hx]; exact hj
      obtain ⟨L, hL, hP⟩ := rclist_of len hone
      obtain ⟨b, off, spot⟩ := a
      have hspot : spot = none := by
        have h1 := (hP 0 (by omega)).1 0 _ rfl
        simpa [Addr.add] using World.cell?_spot h1
      subst hspot
      have hp : ∀ i j, ((⟨b, off, none⟩ : Addr).add i).add j = ⟨b, off + i + j, none⟩ := fun i j => by unfold Addr.add; split <;> split <;> simp_all
      refine ⟨some ⟨b, off, none⟩, L, cap, by rw [hL], by omega, .inr ⟨b, off, rfl, fun i hil => ?_⟩, fun i hil => (hP i (by omega)).2⟩
      have h1 := (hP i (by omega)).1
      refine ⟨?_, ?_, ?_, ?_, ?_, ?_, ?_, ?_, ?_, ?_, ?_⟩
      · have := h1 0 _ rfl; rwa [hp] at this
      · have := h1 1 _ rfl; rwa [hp] at this
      · have := h1 2 _ rfl; rwa [hp] at this
      · have := h1 3 _ rfl; rwa [hp] at this
      · have := h1 4 _ rfl; rwa [hp] at this
      · have := h1 5 _ rfl; rwa [hp] at this
      · have := h1 6 _ rfl; rwa [hp] at this
      · have := h1 7 _ rfl; rwa [hp] at this
      · have := h1 8 _ rfl; rwa [hp] at this
      · have := h1 9 _ rfl; rwa [hp] at this
      · have := h1 10 _ rfl; rwa [hp] at this
end
end Go.Proofs.Ytophbefmlfieeaa
