/-
  ARGUMENTS OPENED: a slice of moves, a slice of bytes.
-/
import Derived.Test.YtjjbdkgnkieliaaSpBackRow
import Derived.ProofKit
import Derived.OpenShut
import Derived.Deep.Slices
import Derived.Deep.Fields
namespace Go.Proofs.Ytjjbdkgnkieliaa
open Go.ChangeShapes Go.WideShapes Go.ChangeAt Go.RowKit
section
variable {H : Type} {enc : TypeId × Value → H} {W : World} {n : Nat}
theorem u8_nat {z : Int} (h : (Lit.int .u8 z).wf = true) : ∃ k : Nat, k < 256 ∧ z = (k : Int) := by
  have e1 : IntKind.u8.min = 0 := by decide
  have e2 : IntKind.u8.max = 255 := by decide
  simp [Lit.wf, e1, e2] at h
  exact ⟨z.toNat, by omega, by omega⟩
theorem list2 {α : Type} {cs : List α} (h : cs.length = 2) : ∃ c0 c1, cs = [c0, c1] := by
  match cs, h with
  | [c0, c1], _ => exact ⟨c0, c1, rfl⟩
theorem mv_cells : Try.prog.cellsOf 48 = 2 := by kernel_rfl
set_option maxRecDepth 100000 in
theorem mv_one {cs : List Value} {y : DataW H × List MemPlace} (hl : cs.length = 2) (h : DataW.trod enc Try.prog W 0 (fun _ => true) true n 48 cs = some y) :
    ∃ x : Mv, cs = [.int .u8 (x.1 : Int), .bool x.2] ∧ x.1 < 256 := by
  obtain ⟨c0, c1, rfl⟩ := list2 hl
  obtain ⟨xs, m, _, _, _, hlen, hx⟩ := DataW.trod_struct Try.underlying48 h
  match xs, hlen with
  | [y0, y1], _ =>
    have t0 := hx 0 _ rfl
    have t1 := hx 1 _ rfl
    obtain ⟨z, e0, _, w0⟩ := DataW.trod_int Try.underlying5 (show DataW.trod enc Try.prog W 0 (fun _ => true) true m 5 [c0] = some y0 from t0)
    obtain ⟨b, e1, _⟩ := DataW.trod_bool Try.underlying4 (show DataW.trod enc Try.prog W 0 (fun _ => true) true m 4 [c1] = some y1 from t1)
    obtain ⟨k, hk, rfl⟩ := u8_nat w0
    simp at e0 e1
    subst e0 e1
    exact ⟨(k, b), rfl, hk⟩
theorem mv_list {P : Nat → Mv → Prop} (m : Nat) (h : ∀ i, i < m → ∃ x, P i x) : ∃ L : List Mv, L.length = m ∧ ∀ i, i < m → P i (L.getD i noMv) := by
  induction m with
  | zero => exact ⟨[], rfl, fun i hi => by omega⟩
  | succ m ih =>
    obtain ⟨L, hl, hp⟩ := ih (fun i hi => h i (by omega))
    obtain ⟨x, hx⟩ := h m (by omega)
    refine ⟨L ++ [x], by simp [hl], fun i hi => ?_⟩
    rw [List.getD_eq_getElem?_getD]
    by_cases e : i < m
    · rw [List.getElem?_append_left (by omega), ← List.getD_eq_getElem?_getD]; exact hp i e
    · have : i = m := by omega
      subst this
      rw [List.getElem?_append_right (by omega), hl]; simpa using hx
theorem mvs_open {base : Nat} {v : Value} {d : DataW H} {p : List MemPlace} (hv : Value.okWide Try.prog W .any base 45 v) (h : DataW.Trod enc Try.prog W 0 (fun _ => true) true 45 v d p) :
    ∃ (a : Option Addr) (L : List Mv) (cap : Nat), v = .slice a L.length cap ∧ L.length ≤ maxLen ∧ (∀ i, i < L.length → (L.getD i noMv).1 < 256) ∧ MvsAt W a L := by
  obtain ⟨a0, len, cap, rfl⟩ := okWide_slice Try.underlying45 hv
  obtain ⟨fuel, hf⟩ := h
  rcases Go.Deep.open_slice Try.underlying45 hf with ⟨hcs, _⟩ | ⟨a, len', cap', m, k, D, Pl, hcs, _, hl, hm, hmm, _, hi⟩
  · simp [Value.cells] at hcs
    obtain ⟨rfl, rfl, rfl⟩ := hcs
    exact ⟨none, [], 0, rfl, by simp, fun i hi => by simp at hi, .inl rfl⟩
  · simp [Value.cells] at hcs
    obtain ⟨rfl, rfl, rfl⟩ := hcs
    simp only [if_true] at hmm
    rw [mv_cells] at hi
    by_cases h0 : len = 0
    · subst h0
      exact ⟨some a, [], cap, rfl, by simp, fun i hi => by simp at hi, .inl rfl⟩
    · have hone : ∀ i, i < len → ∃ x : Mv, x.1 < 256 ∧ ∀ j u, ([.int .u8 (x.1 : Int), .bool x.2] : List Value)[j]? = some u → W.cell? ((a.add (i * 2)).add j) = some u := fun i hil => by
        obtain ⟨cs', hc, ht⟩ := hi i (by omega)
        obtain ⟨_, hcl, hat⟩ := World.cells?_some hc
        obtain ⟨x, hx, hok⟩ := mv_one hcl ht
        refine ⟨x, hok, fun j u hj => ?_⟩
        have hjl : j < 2 := by
          obtain ⟨hlt, _⟩ := List.getElem?_eq_some_iff.1 hj
          simpa using hlt
        rw [hat j hjl, hx]; exact hj
      obtain ⟨L, hL, hP⟩ := mv_list len hone
      obtain ⟨b, off, spot⟩ := a
      have hspot : spot = none := by
        have h1 := (hP 0 (by omega)).2 0 _ rfl
        simpa [Addr.add] using World.cell?_spot h1
      subst hspot
      have hp : ∀ i j, ((⟨b, off, none⟩ : Addr).add i).add j = ⟨b, off + i + j, none⟩ := fun i j => by unfold Addr.add; split <;> split <;> simp_all
      refine ⟨some ⟨b, off, none⟩, L, cap, by rw [hL], by omega, fun i hil => (hP i (by omega)).1, .inr ⟨b, off, rfl, fun i hil => ?_⟩⟩
      have h1 := (hP i (by omega)).2
      refine ⟨?_, ?_⟩
      · have := h1 0 _ rfl; rwa [hp] at this
      · have := h1 1 _ rfl; rwa [hp] at this
theorem u8s_open {base : Nat} {v : Value} {d : DataW H} {p : List MemPlace} (hv : Value.okWide Try.prog W .any base 46 v) (h : DataW.Trod enc Try.prog W 0 (fun _ => true) true 46 v d p) :
    ∃ (a : Option Addr) (l : List Nat) (cap : Nat), v = .slice a l.length cap ∧ l.length ≤ maxLen ∧ (∀ i, i < l.length → l.getD i 0 < 256) ∧ U8s W a l := by
  obtain ⟨a0, len, cap, rfl⟩ := okWide_slice Try.underlying46 hv
  obtain ⟨fuel, hf⟩ := h
  rcases open_ints Try.underlying46 Try.underlying5 (show Try.prog.cellsOf 5 = 1 by kernel_rfl) hf with ⟨hcs, _⟩ | ⟨a, len', cap', zs, hcs, _, hl, hm, hz, _, hcell, hws⟩
  · simp [Value.cells] at hcs
    obtain ⟨rfl, rfl, rfl⟩ := hcs
    exact ⟨none, [], 0, rfl, by simp, fun i hi => by simp at hi, .inl rfl⟩
  · simp [Value.cells] at hcs
    obtain ⟨rfl, rfl, rfl⟩ := hcs
    simp only [if_true] at hz
    have hlen : ((zs.take len).map Int.toNat).length = len := by rw [List.length_map, List.length_take]; omega
    have hget : ∀ i, i < len → ((zs.take len).map Int.toNat).getD i 0 = (zs.getD i 0).toNat ∧ (zs.getD i 0).toNat < 256 ∧ ((zs.getD i 0).toNat : Int) = zs.getD i 0 := fun i hi => by
      have hiz : i < zs.length := by omega
      have e : zs.getD i 0 = zs[i] := by rw [List.getD_eq_getElem?_getD, List.getElem?_eq_getElem hiz]; rfl
      obtain ⟨k, hk, hz2⟩ := u8_nat (hws zs[i] (List.getElem_mem hiz))
      rw [e, hz2]
      refine ⟨?_, by simpa using hk, by simp⟩
      rw [List.getD_eq_getElem?_getD, List.getElem?_map, List.getElem?_take_of_lt hi, List.getElem?_eq_getElem hiz, hz2]
      rfl
    refine ⟨some a, (zs.take len).map Int.toNat, cap, by rw [hlen], by omega, fun i hi => by rw [hlen] at hi; rw [(hget i hi).1]; exact (hget i hi).2.1, ?_⟩
    by_cases h0 : len = 0
    · left; subst h0; rfl
    · right
      obtain ⟨b, off, spot⟩ := a
      have hspot : spot = none := by simpa [Addr.add] using World.cell?_spot (hcell 0 (by omega))
      subst hspot
      refine ⟨b, off, rfl, fun i hi => ?_⟩
      rw [hlen] at hi
      have hp : (⟨b, off, none⟩ : Addr).add i = ⟨b, off + i, none⟩ := by unfold Addr.add; split <;> simp_all
      have := hcell i (by omega)
      rw [hp] at this
      rw [this, (hget i hi).1, (hget i hi).2.2]
end
end Go.Proofs.Ytjjbdkgnkieliaa
