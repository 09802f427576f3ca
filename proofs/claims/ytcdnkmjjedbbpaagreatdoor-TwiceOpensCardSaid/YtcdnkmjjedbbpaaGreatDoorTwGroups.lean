/-
  ARGUMENTS OPENED: a slice of slices of pages.
-/
import Derived.Test.YtcdnkmjjedbbpaaGreatDoorTwArgs
namespace Go.Proofs.YtcdnkmjjedbbpaaGreatDoor
open Go.ChangeShapes Go.WideShapes Go.ChangeAt Go.RowKit
/-- A slice of pages, as a value. -/
structure GrV where
  a : Option Addr
  c : Nat
  l : List PgV
def noGr : GrV := ⟨none, 0, []⟩
/-- What is known of such a slice, in memory. -/
structure GrOk (W : World) (g : GrV) : Prop where
  n : g.l.length ≤ maxLen
  z : ∀ i, (g.l.getD i noPg).l.length ≤ maxLen
  m : PgsAt W g.a g.l
  k : g.l.length ≤ g.c
theorem GrOk.below {W X : World} {g : GrV} (h : GrOk W g) (hb : Below W.heap.size W X) : GrOk X g := ⟨h.n, h.z, h.m.below hb, h.k⟩
def GrsAt (W : World) (a : Option Addr) (gs : List GrV) : Prop :=
  gs = [] ∨ ∃ b off, a = some ⟨b, off, none⟩ ∧ ∀ i, i < gs.length → W.cell? ⟨b, off + i, none⟩ = some (.slice (gs.getD i noGr).a (gs.getD i noGr).l.length (gs.getD i noGr).c) ∧ GrOk W (gs.getD i noGr)
theorem GrsAt.below {W X : World} {a : Option Addr} {gs : List GrV} (h : GrsAt W a gs) (hb : Below W.heap.size W X) : GrsAt X a gs := by
  rcases h with h | ⟨b, off, e, h⟩
  · exact .inl h
  · exact .inr ⟨b, off, e, fun i hi => ⟨Dv.keep_cell hb (h i hi).1, (h i hi).2.below hb⟩⟩
section
variable {H : Type} {enc : TypeId × Value → H} {W : World} {n : Nat}
set_option maxRecDepth 100000 in
theorem one_pgs {c : Value} {y : DataW H × List MemPlace} (hf : DataW.trod enc Tryz.prog W 0 (fun _ => true) true n 31 [c] = some y) :
    ∃ (a : Option Addr) (L : List PgV) (cap : Nat), c = .slice a L.length cap ∧ L.length ≤ maxLen ∧ (∀ i, (L.getD i noPg).l.length ≤ maxLen) ∧ PgsAt W a L ∧ L.length ≤ cap := by
  have no0 : ∀ i, (([] : List PgV).getD i noPg).l.length ≤ maxLen := fun i => by
    show 0 ≤ maxLen; omega
  rcases Go.Deep.open_slice Tryz.underlying31 hf with ⟨hcs, _⟩ | ⟨a, len, cap, m, k, D, Pl, hcs, _, hl, hm, hmm, _, hi⟩
  · simp at hcs
    exact ⟨none, [], 0, hcs, by simp, no0, .inl rfl, Nat.le_refl _⟩
  · simp at hcs
    simp only [if_true] at hmm
    rw [page_cells] at hi
    by_cases h0 : len = 0
    · subst h0
      exact ⟨some a, [], cap, hcs, by simp, no0, .inl rfl, Nat.zero_le _⟩
    · have hone : ∀ i, i < len → ∃ q : PgV, (∀ j u, ([.int .i64 q.no, .int .i64 q.g, .slice q.a q.l.length q.c] : List Value)[j]? = some u → W.cell? ((a.add (i * 3)).add j) = some u) ∧ q.l.length ≤ maxLen ∧ ClsAt W q.a q.l := fun i hil => by
        obtain ⟨cs', hc, ht⟩ := hi i (by omega)
        obtain ⟨_, hcl, hat⟩ := World.cells?_some hc
        obtain ⟨x, hx, hxl, hxc⟩ := pgv_one hcl ht
        refine ⟨x, fun j u hj => ?_, hxl, hxc⟩
        have hjl : j < 3 := by
          obtain ⟨hlt, _⟩ := List.getElem?_eq_some_iff.1 hj
          simpa using hlt
        rw [hat j hjl, hx]; exact hj
      obtain ⟨L, hL, hP⟩ := plist_of len hone
      obtain ⟨b, off, spot⟩ := a
      have hspot : spot = none := by
        have h1 := (hP 0 (by omega)).1 0 _ rfl
        simpa [Addr.add] using World.cell?_spot h1
      subst hspot
      have hp : ∀ i j, ((⟨b, off, none⟩ : Addr).add i).add j = ⟨b, off + i + j, none⟩ := fun i j => by unfold Addr.add; split <;> split <;> simp_all
      refine ⟨some ⟨b, off, none⟩, L, cap, by rw [hL]; exact hcs, by omega, fun i => ?_, .inr ⟨b, off, rfl, fun i hil => ?_⟩, by omega⟩
      · by_cases hil : i < L.length
        · exact (hP i (by omega)).2.1
        · rw [List.getD_eq_getElem?_getD, List.getElem?_eq_none (by omega)]
          show 0 ≤ maxLen; omega
      · obtain ⟨h1, _, h3⟩ := hP i (by omega)
        refine ⟨?_, ?_, ?_, h3⟩
        · have := h1 0 _ rfl; rwa [hp, Nat.add_zero] at this
        · have := h1 1 _ rfl; rwa [hp] at this
        · have := h1 2 _ rfl; rwa [hp] at this
theorem glist_of {P : Nat → GrV → Prop} (m : Nat) (h : ∀ i, i < m → ∃ x, P i x) : ∃ L : List GrV, L.length = m ∧ ∀ i, i < m → P i (L.getD i noGr) := by
  induction m with
  | zero => exact ⟨[], rfl, fun i hi => by omega⟩
  | succ m ih =>
    obtain ⟨L, hl, hp⟩ := ih (fun i hi => h i (by omega))
    obtain ⟨x, hx⟩ := h m (by omega)
    refine ⟨L ++ [x], by simp [hl], fun i hi => ?_⟩
    rw [List.getD_eq_getElem?_getD]
    by_cases e : i < m
    · rw [List.getElem?_append_left (by omega), ← List.getD_eq_getElem?_getD]; exact hp i e
    · have : i = m := by omega
      subst this
      rw [List.getElem?_append_right (by omega), hl]; simpa using hx
theorem pgs_cells : Tryz.prog.cellsOf 31 = 1 := by kernel_rfl
set_option maxRecDepth 100000 in
theorem grs_open {base : Nat} {v : Value} {d : DataW H} {p : List MemPlace} (hv : Value.okWide Tryz.prog W .any base 22 v) (h : DataW.Trod enc Tryz.prog W 0 (fun _ => true) true 22 v d p) :
    ∃ (a : Option Addr) (L : List GrV) (cap : Nat), v = .slice a L.length cap ∧ L.length ≤ maxLen ∧ GrsAt W a L := by
  obtain ⟨a0, len, cap, rfl⟩ := okWide_slice Tryz.underlying22 hv
  obtain ⟨fuel, hf⟩ := h
  rcases Go.Deep.open_slice Tryz.underlying22 hf with ⟨hcs, _⟩ | ⟨a, len', cap', m, k, D, Pl, hcs, _, hl, hm, hmm, _, hi⟩
  · simp [Value.cells] at hcs
    obtain ⟨rfl, rfl, rfl⟩ := hcs
    exact ⟨none, [], 0, rfl, by simp, .inl rfl⟩
  · simp [Value.cells] at hcs
    obtain ⟨rfl, rfl, rfl⟩ := hcs
    simp only [if_true] at hmm
    rw [pgs_cells] at hi
    by_cases h0 : len = 0
    · subst h0
      exact ⟨some a, [], cap, rfl, by simp, .inl rfl⟩
    · have hone : ∀ i, i < len → ∃ q : GrV, W.cell? (a.add (i * 1)) = some (.slice q.a q.l.length q.c) ∧ GrOk W q := fun i hil => by
        obtain ⟨cs', hc, ht⟩ := hi i (by omega)
        obtain ⟨_, hcl, hat⟩ := World.cells?_some hc
        match cs', hcl with
        | [c0], _ =>
          obtain ⟨qa, ql, qc, rfl, h1, h2, h3, h4⟩ := one_pgs ht
          refine ⟨⟨qa, qc, ql⟩, ?_, ⟨h1, h2, h3, h4⟩⟩
          have := hat 0 (by omega)
          have e : (a.add (i * 1)).add 0 = a.add (i * 1) := by unfold Addr.add; split <;> simp_all
          rw [e] at this
          exact this
      obtain ⟨L, hL, hP⟩ := glist_of len hone
      obtain ⟨b, off, spot⟩ := a
      have hspot : spot = none := by
        have h1 := (hP 0 (by omega)).1
        simpa [Addr.add] using World.cell?_spot h1
      subst hspot
      have hp : ∀ i, (⟨b, off, none⟩ : Addr).add (i * 1) = ⟨b, off + i, none⟩ := fun i => by unfold Addr.add; split <;> simp_all
      refine ⟨some ⟨b, off, none⟩, L, cap, by rw [hL], by omega, .inr ⟨b, off, rfl, fun i hil => ?_⟩⟩
      obtain ⟨h1, h2⟩ := hP i (by omega)
      rw [hp] at h1
      exact ⟨h1, h2⟩
end
end Go.Proofs.YtcdnkmjjedbbpaaGreatDoor
