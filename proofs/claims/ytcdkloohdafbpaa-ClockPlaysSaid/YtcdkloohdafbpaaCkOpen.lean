/-
  ARGUMENTS OPENED: an act, a slice of acts.
-/
import Derived.Test.YtcdkloohdafbpaaCkLaw
import Derived.ProofKit
import Derived.OpenShut
import Derived.Deep.Slices
import Derived.Deep.Fields
namespace Go.Proofs.Ytcdkloohdafbpaa
open Go.ChangeShapes Go.WideShapes Go.ChangeAt Go.RowKit
section
variable {H : Type} {enc : TypeId × Value → H} {W : World} {n : Nat}
theorem one_int' {c : Value} {y : DataW H × List MemPlace} (h : DataW.trod enc Try.prog W 0 (fun _ => true) true n 3 [c] = some y) : ∃ z, c = .int .i64 z ∧ (Lit.int .i64 z).wf = true := by
  obtain ⟨z, e, _, w⟩ := DataW.trod_int Try.underlying3 h
  exact ⟨z, by simpa using e, w⟩
theorem one_ints {c : Value} {y : DataW H × List MemPlace} (h : DataW.trod enc Try.prog W 0 (fun _ => true) true n 28 [c] = some y) :
    ∃ a l cap, c = .slice a l.length cap ∧ Ints64 l ∧ l.length ≤ maxLen ∧ l.length ≤ cap ∧ IntsAt W a l := by
  rcases open_ints Try.underlying28 Try.underlying3 (show Try.prog.cellsOf 3 = 1 by kernel_rfl) h with ⟨hcs, _⟩ | ⟨a, len, cap, zs, hcs, _, hl, hm, hz, _, hcell, hws⟩
  · simp at hcs
    exact ⟨none, [], 0, hcs, fun n hn => by simp at hn, by simp, by simp, .inl rfl⟩
  · simp at hcs
    simp only [if_true] at hz
    have hlen : (zs.take len).length = len := by rw [List.length_take]; omega
    refine ⟨some a, zs.take len, cap, by rw [hlen]; exact hcs, fun n hn => hws n (List.mem_of_mem_take hn), by omega, by omega, ?_⟩
    by_cases h0 : len = 0
    · left; subst h0; rfl
    · right
      obtain ⟨b, off, spot⟩ := a
      have hspot : spot = none := by simpa [Addr.add] using World.cell?_spot (hcell 0 (by omega))
      subst hspot
      refine ⟨b, off, rfl, fun i hi => ?_⟩
      rw [hlen] at hi
      have hp : (⟨b, off, none⟩ : Addr).add i = ⟨b, off + i, none⟩ := by unfold Addr.add; split <;> simp_all
      have := hcell i (by omega)
      rw [hp] at this
      rw [this]
      simp [List.getD_eq_getElem?_getD, hi]
theorem list6 {α : Type} {cs : List α} (h : cs.length = 6) : ∃ c0 c1 c2 c3 c4 c5, cs = [c0, c1, c2, c3, c4, c5] := by
  match cs, h with
  | [c0, c1, c2, c3, c4, c5], _ => exact ⟨c0, c1, c2, c3, c4, c5, rfl⟩
theorem act_cells : Try.prog.cellsOf 34 = 6 := by kernel_rfl
set_option maxRecDepth 100000 in
theorem ac_one {cs : List Value} {y : DataW H × List MemPlace} (hl : cs.length = 6) (h : DataW.trod enc Try.prog W 0 (fun _ => true) true n 34 cs = some y) :
    ∃ x : Ac, cs = [.int .i64 x.k, .int .i64 x.s, .int .i64 x.p, .int .i64 x.t, .int .i64 x.n, .slice x.ma x.ml.length x.mc] ∧ AcOk W x := by
  obtain ⟨c0, c1, c2, c3, c4, c5, rfl⟩ := list6 hl
  obtain ⟨xs, m, _, _, _, hlen, hx⟩ := DataW.trod_struct Try.underlying34 h
  match xs, hlen with
  | [y0, y1, y2, y3, y4, y5], _ =>
    have t0 := hx 0 _ rfl
    have t1 := hx 1 _ rfl
    have t2 := hx 2 _ rfl
    have t3 := hx 3 _ rfl
    have t4 := hx 4 _ rfl
    have t5 := hx 5 _ rfl
    obtain ⟨k, rfl, w0⟩ := one_int' (c := c0) t0
    obtain ⟨s, rfl, w1⟩ := one_int' (c := c1) t1
    obtain ⟨p, rfl, w2⟩ := one_int' (c := c2) t2
    obtain ⟨t, rfl, w3⟩ := one_int' (c := c3) t3
    obtain ⟨z, rfl, w4⟩ := one_int' (c := c4) t4
    obtain ⟨ma, ml, mc, rfl, w5, w6, w7, w8⟩ := one_ints (c := c5) t5
    exact ⟨⟨k, s, p, t, z, ma, ml, mc⟩, rfl, ⟨w0, w1, w2, w3, w4, w5, w6, w7, w8⟩⟩
theorem ac_open {base : Nat} {v : Value} {d : DataW H} {p : List MemPlace} (hv : Value.okWide Try.prog W .any base 34 v) (h : DataW.Trod enc Try.prog W 0 (fun _ => true) true 34 v d p) :
    ∃ x : Ac, v = .agg x.cells ∧ AcOk W x := by
  obtain ⟨cs, rfl, hsz⟩ := okWide_struct (P := Try.prog) (w := W) (r := .any) (base := base) (t := 34) (v := v) Try.underlying34 hv
  obtain ⟨fuel, hf⟩ := h
  obtain ⟨x, hx, hok⟩ := ac_one (cs := cs.toList) (by simpa using hsz.trans act_cells) (by simpa [Value.cells] using hf)
  refine ⟨x, ?_, hok⟩
  congr 1
  apply Array.toList_inj.1
  rw [hx]; rfl
theorem list_of {P : Nat → Ac → Prop} (m : Nat) (h : ∀ i, i < m → ∃ x, P i x) : ∃ L : List Ac, L.length = m ∧ ∀ i, i < m → P i (L.getD i noAc) := by
  induction m with
  | zero => exact ⟨[], rfl, fun i hi => by omega⟩
  | succ m ih =>
    obtain ⟨L, hl, hp⟩ := ih (fun i hi => h i (by omega))
    obtain ⟨x, hx⟩ := h m (by omega)
    refine ⟨L ++ [x], by simp [hl], fun i hi => ?_⟩
    rw [List.getD_eq_getElem?_getD]
    by_cases e : i < m
    · rw [List.getElem?_append_left (by omega), ← List.getD_eq_getElem?_getD]; exact hp i e
    · have : i = m := by omega
      subst this
      rw [List.getElem?_append_right (by omega), hl]; simpa using hx
theorem acts_open {base : Nat} {v : Value} {d : DataW H} {p : List MemPlace} (hv : Value.okWide Try.prog W .any base 22 v) (h : DataW.Trod enc Try.prog W 0 (fun _ => true) true 22 v d p) :
    ∃ (a : Option Addr) (L : List Ac) (cap : Nat), v = .slice a L.length cap ∧ L.length ≤ maxLen ∧ ActsAt W a L := by
  obtain ⟨a0, len, cap, rfl⟩ := okWide_slice Try.underlying22 hv
  obtain ⟨fuel, hf⟩ := h
  rcases Go.Deep.open_slice Try.underlying22 hf with ⟨hcs, _⟩ | ⟨a, len', cap', m, k, D, Pl, hcs, _, hl, hm, hmm, _, hi⟩
  · simp [Value.cells] at hcs
    obtain ⟨rfl, rfl, rfl⟩ := hcs
    exact ⟨none, [], 0, rfl, by simp, fun x hx => by simp at hx, .inl rfl⟩
  · simp [Value.cells] at hcs
    obtain ⟨rfl, rfl, rfl⟩ := hcs
    simp only [if_true] at hmm
    rw [act_cells] at hi
    by_cases h0 : len = 0
    · subst h0
      exact ⟨some a, [], cap, rfl, by simp, fun x hx => by simp at hx, .inl rfl⟩
    · have hone : ∀ i, i < len → ∃ x : Ac, AcOk W x ∧ ∀ j u, ([.int .i64 x.k, .int .i64 x.s, .int .i64 x.p, .int .i64 x.t, .int .i64 x.n, .slice x.ma x.ml.length x.mc] : List Value)[j]? = some u → W.cell? ((a.add (i * 6)).add j) = some u := fun i hil => by
        obtain ⟨cs', hc, ht⟩ := hi i (by omega)
        obtain ⟨_, hcl, hat⟩ := World.cells?_some hc
        obtain ⟨x, hx, hok⟩ := ac_one hcl ht
        refine ⟨x, hok, fun j u hj => ?_⟩
        have hjl : j < 6 := by
          obtain ⟨hlt, _⟩ := List.getElem?_eq_some_iff.1 hj
          simpa using hlt
        rw [hat j hjl, hx]; exact hj
      obtain ⟨L, hL, hP⟩ := list_of len hone
      obtain ⟨b, off, spot⟩ := a
      have hspot : spot = none := by
        have h1 := (hP 0 (by omega)).2 0 _ rfl
        simpa [Addr.add] using World.cell?_spot h1
      subst hspot
      have hp : ∀ i j, ((⟨b, off, none⟩ : Addr).add i).add j = ⟨b, off + i + j, none⟩ := fun i j => by unfold Addr.add; split <;> split <;> simp_all
      refine ⟨some ⟨b, off, none⟩, L, cap, by rw [hL], by omega, fun x hx => ?_, .inr ⟨b, off, rfl, fun i hil => ?_⟩⟩
      · obtain ⟨i, hil, rfl⟩ := List.getElem_of_mem hx
        have := (hP i (by omega)).1
        rwa [List.getD_eq_getElem?_getD, List.getElem?_eq_getElem hil] at this
      · have h1 := (hP i (by omega)).2
        refine ⟨?_, ?_, ?_, ?_, ?_, ?_⟩
        · have := h1 0 _ rfl; rwa [hp] at this
        · have := h1 1 _ rfl; rwa [hp] at this
        · have := h1 2 _ rfl; rwa [hp] at this
        · have := h1 3 _ rfl; rwa [hp] at this
        · have := h1 4 _ rfl; rwa [hp] at this
        · have := h1 5 _ rfl; rwa [hp] at this
end
end Go.Proofs.Ytcdkloohdafbpaa
