/-
  NumsSets: the law's acts in memory, and opened.
-/
import Derived.Test.YtjpllcdjiagjlaaSetWith
import Derived.ProofKit
import Derived.OpenShut
import Derived.Deep.Slices
import Derived.Deep.Fields
namespace Go.Proofs.Ytjpllcdjiagjlaa
open Go.ChangeShapes Go.WideShapes Go.ChangeAt Go.RowKit
/-- An act: its kind, its numbers. -/
structure SAct where
  k : Int
  a : Option Addr
  l : List Int
  c : Nat
def noSA : SAct := ⟨0, none, [], 0⟩
def SActs (w : World) (a : Option Addr) (L : List SAct) : Prop :=
  L = [] ∨ ∃ b off, a = some ⟨b, off, none⟩ ∧ ∀ i, i < L.length → w.cell? ⟨b, off + i * 2, none⟩ = some (.int .i64 (L.getD i noSA).k) ∧ w.cell? ⟨b, off + i * 2 + 1, none⟩ = some (.slice (L.getD i noSA).a (L.getD i noSA).l.length (L.getD i noSA).c) ∧ IntsAt w (L.getD i noSA).a (L.getD i noSA).l
section
variable {H : Type} {enc : TypeId × Value → H} {W : World} {n : Nat}
theorem sa_int {c : Value} {y : DataW H × List MemPlace} (h : DataW.trod enc Try.prog W 0 (fun _ => true) true n 3 [c] = some y) : ∃ z, c = .int .i64 z := by
  obtain ⟨z, e, _, w⟩ := DataW.trod_int Try.underlying3 h
  exact ⟨z, by simpa using e⟩
theorem sa_ints {c : Value} {y : DataW H × List MemPlace} (h : DataW.trod enc Try.prog W 0 (fun _ => true) true n 22 [c] = some y) :
    ∃ a l cap, c = .slice a l.length cap ∧ l.length ≤ maxLen ∧ IntsAt W a l := by
  rcases open_ints Try.underlying22 Try.underlying3 (show Try.prog.cellsOf 3 = 1 by kernel_rfl) h with ⟨hcs, _⟩ | ⟨a, len, cap, zs, hcs, _, hl, hm, hz, _, hcell, hws⟩
  · simp at hcs
    exact ⟨none, [], 0, hcs, by simp, .inl rfl⟩
  · simp at hcs
    simp only [if_true] at hz
    have hlen : (zs.take len).length = len := by rw [List.length_take]; omega
    refine ⟨some a, zs.take len, cap, by rw [hlen]; exact hcs, by omega, ?_⟩
    by_cases h0 : len = 0
    · left; subst h0; rfl
    · right
      obtain ⟨b, off, spot⟩ := a
      have hspot : spot = none := by simpa [Addr.add] using World.cell?_spot (hcell 0 (by omega))
      subst hspot
      refine ⟨b, off, rfl, fun i hi => ?_⟩
      rw [hlen] at hi
      have hp : (⟨b, off, none⟩ : Addr).add i = ⟨b, off + i, none⟩ := by unfold Addr.add; split <;> simp_all
      have := hcell i (by omega)
      rw [hp] at this
      rw [this]
      simp [List.getD_eq_getElem?_getD, hi]
theorem sa_list2 {α : Type} {cs : List α} (h : cs.length = 2) : ∃ c0 c1, cs = [c0, c1] := by
  match cs, h with
  | [c0, c1], _ => exact ⟨c0, c1, rfl⟩
theorem sa_cells : Try.prog.cellsOf 37 = 2 := by kernel_rfl
set_option maxRecDepth 100000 in
theorem sa_one {cs : List Value} {y : DataW H × List MemPlace} (hl : cs.length = 2) (h : DataW.trod enc Try.prog W 0 (fun _ => true) true n 37 cs = some y) :
    ∃ x : SAct, cs = [.int .i64 x.k, .slice x.a x.l.length x.c] ∧ x.l.length ≤ maxLen ∧ IntsAt W x.a x.l := by
  obtain ⟨c0, c1, rfl⟩ := sa_list2 hl
  obtain ⟨xs, m, _, _, _, hlen, hx⟩ := DataW.trod_struct Try.underlying37 h
  match xs, hlen with
  | [y0, y1], _ =>
    have t0 := hx 0 _ rfl
    have t1 := hx 1 _ rfl
    obtain ⟨k, rfl⟩ := sa_int (c := c0) t0
    obtain ⟨ma, ml, mc, rfl, w6, w8⟩ := sa_ints (c := c1) t1
    exact ⟨⟨k, ma, ml, mc⟩, rfl, w6, w8⟩
theorem sa_list {P : Nat → SAct → Prop} (m : Nat) (h : ∀ i, i < m → ∃ x, P i x) : ∃ L : List SAct, L.length = m ∧ ∀ i, i < m → P i (L.getD i noSA) := by
  induction m with
  | zero => exact ⟨[], rfl, fun i hi => by omega⟩
  | succ m ih =>
    obtain ⟨L, hl, hp⟩ := ih (fun i hi => h i (by omega))
    obtain ⟨x, hx⟩ := h m (by omega)
    refine ⟨L ++ [x], by simp [hl], fun i hi => ?_⟩
    rw [List.getD_eq_getElem?_getD]
    by_cases e : i < m
    · rw [List.getElem?_append_left (by omega), ← List.getD_eq_getElem?_getD]; exact hp i e
    · have : i = m := by omega
      subst this
      rw [List.getElem?_append_right (by omega), hl]; simpa using hx
theorem sas_open {base : Nat} {v : Value} {d : DataW H} {p : List MemPlace} (hv : Value.okWide Try.prog W .any base 23 v) (h : DataW.Trod enc Try.prog W 0 (fun _ => true) true 23 v d p) :
    ∃ (a : Option Addr) (L : List SAct) (cap : Nat), v = .slice a L.length cap ∧ L.length ≤ maxLen ∧ (∀ i, i < L.length → (L.getD i noSA).l.length ≤ maxLen) ∧ SActs W a L := by
  obtain ⟨a0, len, cap, rfl⟩ := okWide_slice Try.underlying23 hv
  obtain ⟨fuel, hf⟩ := h
  rcases Go.Deep.open_slice Try.underlying23 hf with ⟨hcs, _⟩ | ⟨a, len', cap', m, k, D, Pl, hcs, _, hl, hm, hmm, _, hi⟩
  · simp [Value.cells] at hcs
    obtain ⟨rfl, rfl, rfl⟩ := hcs
    exact ⟨none, [], 0, rfl, by simp, fun i hi => by simp at hi, .inl rfl⟩
  · simp [Value.cells] at hcs
    obtain ⟨rfl, rfl, rfl⟩ := hcs
    simp only [if_true] at hmm
    rw [sa_cells] at hi
    by_cases h0 : len = 0
    · subst h0
      exact ⟨some a, [], cap, rfl, by simp, fun i hi => by simp at hi, .inl rfl⟩
    · have hone : ∀ i, i < len → ∃ x : SAct, (x.l.length ≤ maxLen ∧ IntsAt W x.a x.l) ∧ ∀ j u, ([.int .i64 x.k, .slice x.a x.l.length x.c] : List Value)[j]? = some u → W.cell? ((a.add (i * 2)).add j) = some u := fun i hil => by
        obtain ⟨cs', hc, ht⟩ := hi i (by omega)
        obtain ⟨_, hcl, hat⟩ := World.cells?_some hc
        obtain ⟨x, hx, hok⟩ := sa_one hcl ht
        refine ⟨x, hok, fun j u hj => ?_⟩
        have hjl : j < 2 := by
          obtain ⟨hlt, _⟩ := List.getElem?_eq_some_iff.1 hj
          simpa using hlt
        rw [hat j hjl, hx]; exact hj
      obtain ⟨L, hL, hP⟩ := sa_list len hone
      obtain ⟨b, off, spot⟩ := a
      have hspot : spot = none := by
        have h1 := (hP 0 (by omega)).2 0 _ rfl
        simpa [Addr.add] using World.cell?_spot h1
      subst hspot
      have hp : ∀ i j, ((⟨b, off, none⟩ : Addr).add i).add j = ⟨b, off + i + j, none⟩ := fun i j => by unfold Addr.add; split <;> split <;> simp_all
      refine ⟨some ⟨b, off, none⟩, L, cap, by rw [hL], by omega, fun i hil => (hP i (by omega)).1.1, .inr ⟨b, off, rfl, fun i hil => ?_⟩⟩
      have h1 := (hP i (by omega)).2
      refine ⟨?_, ?_, (hP i (by omega)).1.2⟩
      · have := h1 0 _ rfl; rwa [hp] at this
      · have := h1 1 _ rfl; rwa [hp] at this
end
theorem SActs.below {w w' : World} {a : Option Addr} {L : List SAct} (h : SActs w a L) (hb : Below w.heap.size w w') : SActs w' a L := by
  rcases h with h | ⟨b, off, e, h⟩
  · exact .inl h
  · exact .inr ⟨b, off, e, fun i hi => ⟨(hb.cell (p := ⟨b, off + i * 2, none⟩) (cell_lt (h i hi).1)).trans (h i hi).1, (hb.cell (p := ⟨b, off + i * 2 + 1, none⟩) (cell_lt (h i hi).2.1)).trans (h i hi).2.1, (h i hi).2.2.below hb⟩⟩
end Go.Proofs.Ytjpllcdjiagjlaa
