/-
  ARGUMENTS OPENED: a slice of pages, a slice of whole numbers.
-/
import Derived.Test.YtcdnkmjjedbbpaaGreatDoorTpOpen
import Derived.Test.YtcdnkmjjedbbpaaGreatDoorTwr
namespace Go.Proofs.YtcdnkmjjedbbpaaGreatDoor
open Go.ChangeShapes Go.WideShapes Go.ChangeAt Go.RowKit
section
variable {H : Type} {enc : TypeId × Value → H} {W : World} {n : Nat}
set_option maxRecDepth 100000 in
theorem pgv_one {cs : List Value} {y : DataW H × List MemPlace} (hl : cs.length = 3) (h : DataW.trod enc Tryz.prog W 0 (fun _ => true) true n 36 cs = some y) :
    ∃ q : PgV, cs = [.int .i64 q.no, .int .i64 q.g, .slice q.a q.l.length q.c] ∧ q.l.length ≤ maxLen ∧ ClsAt W q.a q.l := by
  obtain ⟨c0, c1, c2, rfl⟩ := list3 hl
  obtain ⟨xs, m, _, _, _, hlen, hx⟩ := DataW.trod_struct Tryz.underlying36 h
  match xs, hlen with
  | [y0, y1, y2], _ =>
    obtain ⟨no, rfl, w0⟩ := pg_int (c := c0) (hx 0 _ rfl)
    obtain ⟨g, rfl, w1⟩ := pg_int (c := c1) (hx 1 _ rfl)
    obtain ⟨a, A, cap, rfl, hl, ha, hlc, hz⟩ := one_cls (c := c2) (hx 2 _ rfl)
    exact ⟨⟨no, g, a, cap, A⟩, rfl, hl, ha⟩
theorem plist_of {P : Nat → PgV → Prop} (m : Nat) (h : ∀ i, i < m → ∃ x, P i x) : ∃ L : List PgV, L.length = m ∧ ∀ i, i < m → P i (L.getD i noPg) := by
  induction m with
  | zero => exact ⟨[], rfl, fun i hi => by omega⟩
  | succ m ih =>
    obtain ⟨L, hl, hp⟩ := ih (fun i hi => h i (by omega))
    obtain ⟨x, hx⟩ := h m (by omega)
    refine ⟨L ++ [x], by simp [hl], fun i hi => ?_⟩
    rw [List.getD_eq_getElem?_getD]
    by_cases e : i < m
    · rw [List.getElem?_append_left (by omega), ← List.getD_eq_getElem?_getD]; exact hp i e
    · have : i = m := by omega
      subst this
      rw [List.getElem?_append_right (by omega), hl]; simpa using hx
set_option maxRecDepth 100000 in
theorem pgs_open {base : Nat} {v : Value} {d : DataW H} {p : List MemPlace} (hv : Value.okWide Tryz.prog W .any base 31 v) (h : DataW.Trod enc Tryz.prog W 0 (fun _ => true) true 31 v d p) :
    ∃ (a : Option Addr) (L : List PgV) (cap : Nat), v = .slice a L.length cap ∧ L.length ≤ maxLen ∧ (∀ i, (L.getD i noPg).l.length ≤ maxLen) ∧ PgsAt W a L ∧ L.length ≤ cap := by
  obtain ⟨a0, len, cap, rfl⟩ := okWide_slice Tryz.underlying31 hv
  obtain ⟨fuel, hf⟩ := h
  have no0 : ∀ i, (([] : List PgV).getD i noPg).l.length ≤ maxLen := fun i => by
    show 0 ≤ maxLen; omega
  rcases Go.Deep.open_slice Tryz.underlying31 hf with ⟨hcs, _⟩ | ⟨a, len', cap', m, k, D, Pl, hcs, _, hl, hm, hmm, _, hi⟩
  · simp [Value.cells] at hcs
    obtain ⟨rfl, rfl, rfl⟩ := hcs
    exact ⟨none, [], 0, rfl, by simp, no0, .inl rfl, Nat.le_refl _⟩
  · simp [Value.cells] at hcs
    obtain ⟨rfl, rfl, rfl⟩ := hcs
    simp only [if_true] at hmm
    rw [page_cells] at hi
    by_cases h0 : len = 0
    · subst h0
      exact ⟨some a, [], cap, rfl, by simp, no0, .inl rfl, Nat.zero_le _⟩
    · have hone : ∀ i, i < len → ∃ q : PgV, (∀ j u, ([.int .i64 q.no, .int .i64 q.g, .slice q.a q.l.length q.c] : List Value)[j]? = some u → W.cell? ((a.add (i * 3)).add j) = some u) ∧ q.l.length ≤ maxLen ∧ ClsAt W q.a q.l := fun i hil => by
        obtain ⟨cs', hc, ht⟩ := hi i (by omega)
        obtain ⟨_, hcl, hat⟩ := World.cells?_some hc
        obtain ⟨x, hx, hxl, hxc⟩ := pgv_one hcl ht
        refine ⟨x, fun j u hj => ?_, hxl, hxc⟩
        have hjl : j < 3 := by
          obtain ⟨hlt, _⟩ := List.getElem?_eq_some_iff.1 hj
          simpa using hlt
        rw [hat j hjl, hx]; exact hj
      obtain ⟨L, hL, hP⟩ := plist_of len hone
      obtain ⟨b, off, spot⟩ := a
      have hspot : spot = none := by
        have h1 := (hP 0 (by omega)).1 0 _ rfl
        simpa [Addr.add] using World.cell?_spot h1
      subst hspot
      have hp : ∀ i j, ((⟨b, off, none⟩ : Addr).add i).add j = ⟨b, off + i + j, none⟩ := fun i j => by unfold Addr.add; split <;> split <;> simp_all
      refine ⟨some ⟨b, off, none⟩, L, cap, by rw [hL], by omega, fun i => ?_, .inr ⟨b, off, rfl, fun i hil => ?_⟩, by omega⟩
      · by_cases hil : i < L.length
        · exact (hP i (by omega)).2.1
        · rw [List.getD_eq_getElem?_getD, List.getElem?_eq_none (by omega)]
          show 0 ≤ maxLen; omega
      · obtain ⟨h1, _, h3⟩ := hP i (by omega)
        refine ⟨?_, ?_, ?_, h3⟩
        · have := h1 0 _ rfl; rwa [hp, Nat.add_zero] at this
        · have := h1 1 _ rfl; rwa [hp] at this
        · have := h1 2 _ rfl; rwa [hp] at this
theorem hone_ints {c : Value} {y : DataW H × List MemPlace} (h : DataW.trod enc Tryz.prog W 0 (fun _ => true) true n 40 [c] = some y) :
    ∃ a l cap, c = .slice a l.length cap ∧ (∀ z ∈ l, (Lit.int .i64 z).wf = true) ∧ l.length ≤ maxLen ∧ l.length ≤ cap ∧ IntsAt W a l := by
  rcases open_ints Tryz.underlying40 Tryz.underlying3 (show Tryz.prog.cellsOf 3 = 1 by kernel_rfl) h with ⟨hcs, _⟩ | ⟨a, len, cap, zs, hcs, _, hl, hm, hz, _, hcell, hws⟩
  · simp at hcs
    exact ⟨none, [], 0, hcs, fun n hn => by simp at hn, by simp, by simp, .inl rfl⟩
  · simp at hcs
    simp only [if_true] at hz
    have hlen : (zs.take len).length = len := by rw [List.length_take]; omega
    refine ⟨some a, zs.take len, cap, by rw [hlen]; exact hcs, fun n hn => hws n (List.mem_of_mem_take hn), by omega, by omega, ?_⟩
    by_cases h0 : len = 0
    · left; subst h0; rfl
    · right
      obtain ⟨b, off, spot⟩ := a
      have hspot : spot = none := by simpa [Addr.add] using World.cell?_spot (hcell 0 (by omega))
      subst hspot
      refine ⟨b, off, rfl, fun i hi => ?_⟩
      rw [hlen] at hi
      have hp : (⟨b, off, none⟩ : Addr).add i = ⟨b, off + i, none⟩ := by unfold Addr.add; split <;> simp_all
      have := hcell i (by omega)
      rw [hp] at this
      rw [this]
      simp [List.getD_eq_getElem?_getD, hi]
set_option maxRecDepth 100000 in
theorem hits_open {base : Nat} {v : Value} {d : DataW H} {p : List MemPlace} (hv : Value.okWide Tryz.prog W .any base 40 v) (h : DataW.Trod enc Tryz.prog W 0 (fun _ => true) true 40 v d p) :
    ∃ (a : Option Addr) (l : List Int) (cap : Nat), v = .slice a l.length cap ∧ l.length ≤ maxLen ∧ (∀ z ∈ l, (Lit.int .i64 z).wf = true) ∧ IntsAt W a l := by
  obtain ⟨a0, len, cap, rfl⟩ := okWide_slice Tryz.underlying40 hv
  obtain ⟨fuel, hf⟩ := h
  obtain ⟨a, l, c, e, h1, h2, _, h3⟩ := hone_ints (c := .slice a0 len cap) (by simpa [Value.cells] using hf)
  exact ⟨a, l, c, e, h2, h1, h3⟩
end
end Go.Proofs.YtcdnkmjjedbbpaaGreatDoor
