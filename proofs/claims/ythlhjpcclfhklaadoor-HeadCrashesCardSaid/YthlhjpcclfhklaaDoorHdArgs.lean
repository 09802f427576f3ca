/-
  ARGUMENTS OPENED: a slice of heads, a slice of whole numbers.
-/
import Derived.Test.YthlhjpcclfhklaaDoorHdKeep
import Derived.ProofKit
import Derived.OpenShut
import Derived.Deep.Slices
import Derived.Deep.Fields
namespace Go.Proofs.YthlhjpcclfhklaaDoor
open Go.ChangeShapes Go.WideShapes Go.ChangeAt Go.RowKit
def noHd : Hd5 := (0, 0, 0, 0, 0)
/-- Heads at a slice. -/
def HdsAt (W : World) (a : Option Addr) (l : List Hd5) : Prop := l = [] ∨ ∃ b off, a = some ⟨b, off, none⟩ ∧ ∀ i, i < l.length →
  W.cell? ⟨b, off + i * 5 + 0, none⟩ = some (.int .i64 (l.getD i noHd).1) ∧ W.cell? ⟨b, off + i * 5 + 1, none⟩ = some (.int .i64 (l.getD i noHd).2.1) ∧ W.cell? ⟨b, off + i * 5 + 2, none⟩ = some (.int .i64 (l.getD i noHd).2.2.1) ∧
  W.cell? ⟨b, off + i * 5 + 3, none⟩ = some (.int .i64 (l.getD i noHd).2.2.2.1) ∧ W.cell? ⟨b, off + i * 5 + 4, none⟩ = some (.int .i64 (l.getD i noHd).2.2.2.2)
theorem HdsAt.below {W X : World} {a : Option Addr} {l : List Hd5} (h : HdsAt W a l) (hb : Below W.heap.size W X) : HdsAt X a l := by
  rcases h with rfl | ⟨b, off, e, h⟩
  · exact .inl rfl
  · exact .inr ⟨b, off, e, fun i hi => ⟨keep_h hb (h i hi).1, keep_h hb (h i hi).2.1, keep_h hb (h i hi).2.2.1, keep_h hb (h i hi).2.2.2.1, keep_h hb (h i hi).2.2.2.2⟩⟩
section
variable {H : Type} {enc : TypeId × Value → H} {W : World} {n : Nat}
theorem hone_int {c : Value} {y : DataW H × List MemPlace} (h : DataW.trod enc Tryd.prog W 0 (fun _ => true) true n 3 [c] = some y) : ∃ z, c = .int .i64 z ∧ (Lit.int .i64 z).wf = true := by
  obtain ⟨z, e, _, w⟩ := DataW.trod_int Tryd.underlying3 h
  exact ⟨z, by simpa using e, w⟩
theorem hlist5 {α : Type} {cs : List α} (h : cs.length = 5) : ∃ c0 c1 c2 c3 c4, cs = [c0, c1, c2, c3, c4] := by
  match cs, h with
  | [c0, c1, c2, c3, c4], _ => exact ⟨c0, c1, c2, c3, c4, rfl⟩
theorem hd_cells : Tryd.prog.cellsOf 33 = 5 := by kernel_rfl
set_option maxRecDepth 100000 in
theorem hd_one {cs : List Value} {y : DataW H × List MemPlace} (hl : cs.length = 5) (h : DataW.trod enc Tryd.prog W 0 (fun _ => true) true n 33 cs = some y) :
    ∃ q : Hd5, cs = [.int .i64 q.1, .int .i64 q.2.1, .int .i64 q.2.2.1, .int .i64 q.2.2.2.1, .int .i64 q.2.2.2.2] := by
  obtain ⟨c0, c1, c2, c3, c4, rfl⟩ := hlist5 hl
  obtain ⟨xs, m, _, _, _, hlen, hx⟩ := DataW.trod_struct Tryd.underlying33 h
  match xs, hlen with
  | [y0, y1, y2, y3, y4], _ =>
    have t0 := hx 0 _ rfl
    have t1 := hx 1 _ rfl
    have t2 := hx 2 _ rfl
    have t3 := hx 3 _ rfl
    have t4 := hx 4 _ rfl
    obtain ⟨s, rfl, w0⟩ := hone_int (c := c0) t0
    obtain ⟨e, rfl, w1⟩ := hone_int (c := c1) t1
    obtain ⟨c, rfl, w2⟩ := hone_int (c := c2) t2
    obtain ⟨st, rfl, w3⟩ := hone_int (c := c3) t3
    obtain ⟨z, rfl, w4⟩ := hone_int (c := c4) t4
    exact ⟨(s, e, c, st, z), rfl⟩
theorem hlist_of {P : Nat → Hd5 → Prop} (m : Nat) (h : ∀ i, i < m → ∃ x, P i x) : ∃ L : List Hd5, L.length = m ∧ ∀ i, i < m → P i (L.getD i noHd) := by
  induction m with
  | zero => exact ⟨[], rfl, fun i hi => by omega⟩
  | succ m ih =>
    obtain ⟨L, hl, hp⟩ := ih (fun i hi => h i (by omega))
    obtain ⟨x, hx⟩ := h m (by omega)
    refine ⟨L ++ [x], by simp [hl], fun i hi => ?_⟩
    rw [List.getD_eq_getElem?_getD]
    by_cases e : i < m
    · rw [List.getElem?_append_left (by omega), ← List.getD_eq_getElem?_getD]; exact hp i e
    · have : i = m := by omega
      subst this
      rw [List.getElem?_append_right (by omega), hl]; simpa using hx
set_option maxRecDepth 100000 in
theorem hds_open {base : Nat} {v : Value} {d : DataW H} {p : List MemPlace} (hv : Value.okWide Tryd.prog W .any base 22 v) (h : DataW.Trod enc Tryd.prog W 0 (fun _ => true) true 22 v d p) :
    ∃ (a : Option Addr) (L : List Hd5) (cap : Nat), v = .slice a L.length cap ∧ L.length ≤ maxLen ∧ HdsAt W a L := by
  obtain ⟨a0, len, cap, rfl⟩ := okWide_slice Tryd.underlying22 hv
  obtain ⟨fuel, hf⟩ := h
  rcases Go.Deep.open_slice Tryd.underlying22 hf with ⟨hcs, _⟩ | ⟨a, len', cap', m, k, D, Pl, hcs, _, hl, hm, hmm, _, hi⟩
  · simp [Value.cells] at hcs
    obtain ⟨rfl, rfl, rfl⟩ := hcs
    exact ⟨none, [], 0, rfl, by simp, .inl rfl⟩
  · simp [Value.cells] at hcs
    obtain ⟨rfl, rfl, rfl⟩ := hcs
    simp only [if_true] at hmm
    rw [hd_cells] at hi
    by_cases h0 : len = 0
    · subst h0
      exact ⟨some a, [], cap, rfl, by simp, .inl rfl⟩
    · have hone : ∀ i, i < len → ∃ q : Hd5, ∀ j u, ([.int .i64 q.1, .int .i64 q.2.1, .int .i64 q.2.2.1, .int .i64 q.2.2.2.1, .int .i64 q.2.2.2.2] : List Value)[j]? = some u → W.cell? ((a.add (i * 5)).add j) = some u := fun i hil => by
        obtain ⟨cs', hc, ht⟩ := hi i (by omega)
        obtain ⟨_, hcl, hat⟩ := World.cells?_some hc
        obtain ⟨x, hx⟩ := hd_one hcl ht
        refine ⟨x, fun j u hj => ?_⟩
        have hjl : j < 5 := by
          obtain ⟨hlt, _⟩ := List.getElem?_eq_some_iff.1 hj
          simpa using hlt
        rw [hat j hjl, hx]; exact hj
      obtain ⟨L, hL, hP⟩ := hlist_of len hone
      obtain ⟨b, off, spot⟩ := a
      have hspot : spot = none := by
        have h1 := hP 0 (by omega) 0 _ rfl
        simpa [Addr.add] using World.cell?_spot h1
      subst hspot
      have hp : ∀ i j, ((⟨b, off, none⟩ : Addr).add i).add j = ⟨b, off + i + j, none⟩ := fun i j => by unfold Addr.add; split <;> split <;> simp_all
      refine ⟨some ⟨b, off, none⟩, L, cap, by rw [hL], by omega, .inr ⟨b, off, rfl, fun i hil => ?_⟩⟩
      have h1 := hP i (by omega)
      refine ⟨?_, ?_, ?_, ?_, ?_⟩
      · have := h1 0 _ rfl; rwa [hp] at this
      · have := h1 1 _ rfl; rwa [hp] at this
      · have := h1 2 _ rfl; rwa [hp] at this
      · have := h1 3 _ rfl; rwa [hp] at this
      · have := h1 4 _ rfl; rwa [hp] at this
theorem hone_ints {c : Value} {y : DataW H × List MemPlace} (h : DataW.trod enc Tryd.prog W 0 (fun _ => true) true n 23 [c] = some y) :
    ∃ a l cap, c = .slice a l.length cap ∧ (∀ z ∈ l, (Lit.int .i64 z).wf = true) ∧ l.length ≤ maxLen ∧ l.length ≤ cap ∧ IntsAt W a l := by
  rcases open_ints Tryd.underlying23 Tryd.underlying3 (show Tryd.prog.cellsOf 3 = 1 by kernel_rfl) h with ⟨hcs, _⟩ | ⟨a, len, cap, zs, hcs, _, hl, hm, hz, _, hcell, hws⟩
  · simp at hcs
    exact ⟨none, [], 0, hcs, fun n hn => by simp at hn, by simp, by simp, .inl rfl⟩
  · simp at hcs
    simp only [if_true] at hz
    have hlen : (zs.take len).length = len := by rw [List.length_take]; omega
    refine ⟨some a, zs.take len, cap, by rw [hlen]; exact hcs, fun n hn => hws n (List.mem_of_mem_take hn), by omega, by omega, ?_⟩
    by_cases h0 : len = 0
    · left; subst h0; rfl
    · right
      obtain ⟨b, off, spot⟩ := a
      have hspot : spot = none := by simpa [Addr.add] using World.cell?_spot (hcell 0 (by omega))
      subst hspot
      refine ⟨b, off, rfl, fun i hi => ?_⟩
      rw [hlen] at hi
      have hp : (⟨b, off, none⟩ : Addr).add i = ⟨b, off + i, none⟩ := by unfold Addr.add; split <;> simp_all
      have := hcell i (by omega)
      rw [hp] at this
      rw [this]
      simp [List.getD_eq_getElem?_getD, hi]
set_option maxRecDepth 100000 in
theorem hits_open {base : Nat} {v : Value} {d : DataW H} {p : List MemPlace} (hv : Value.okWide Tryd.prog W .any base 23 v) (h : DataW.Trod enc Tryd.prog W 0 (fun _ => true) true 23 v d p) :
    ∃ (a : Option Addr) (l : List Int) (cap : Nat), v = .slice a l.length cap ∧ l.length ≤ maxLen ∧ (∀ z ∈ l, (Lit.int .i64 z).wf = true) ∧ IntsAt W a l := by
  obtain ⟨a0, len, cap, rfl⟩ := okWide_slice Tryd.underlying23 hv
  obtain ⟨fuel, hf⟩ := h
  obtain ⟨a, l, c, e, h1, h2, _, h3⟩ := hone_ints (c := .slice a0 len cap) (by simpa [Value.cells] using hf)
  exact ⟨a, l, c, e, h2, h1, h3⟩
end
theorem i64_wf {n : Int} (h : (Lit.int .i64 n).wf = true) : -9223372036854775808 ≤ n ∧ n ≤ 9223372036854775807 := by
  simp [Lit.wf, IntKind.min, IntKind.max, IntKind.signed, IntKind.bits] at h
  omega
end Go.Proofs.YthlhjpcclfhklaaDoor
