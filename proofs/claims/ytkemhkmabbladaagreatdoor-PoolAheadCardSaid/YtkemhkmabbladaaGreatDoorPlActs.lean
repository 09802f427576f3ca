/-
  THE ACTS OF quadrigalaw13 in memory, and opened: nine cells each.
-/
import Derived.Test.YtkemhkmabbladaaGreatDoorTpOpen
import Derived.Test.YtkemhkmabbladaaGreatDoorPlx
namespace Go.Proofs.YtkemhkmabbladaaGreatDoor
open Go.ChangeShapes Go.WideShapes Go.ChangeAt Go.RowKit
/-- An act: its kind, its number, its numbers, a key, a value, a page. -/
structure PAct where
  k : Int
  n : Int
  a : Option Addr
  l : List Int
  c : Nat
  key : ByteArray
  has : Bool
  s : ByteArray
  pn : Int
  pg : Int
  pa : Option Addr
  pl : List (ByteArray × ByteArray)
  pc : Nat
def noPA : PAct := ⟨0, 0, none, [], 0, ByteArray.empty, false, ByteArray.empty, 0, 0, none, [], 0⟩
def PAct.cells (x : PAct) : List Value := [.int .i64 x.k, .int .i64 x.n, .slice x.a x.l.length x.c, .string x.key, .bool x.has, .string x.s, .int .i64 x.pn, .int .i64 x.pg, .slice x.pa x.pl.length x.pc]
/-- What is true of an act's own parts. -/
structure PActOk (W : World) (x : PAct) : Prop where
  kw : (Lit.int .i64 x.k).wf = true
  nw : (Lit.int .i64 x.n).wf = true
  ll : x.l.length ≤ maxLen
  lw : ∀ z ∈ x.l, (Lit.int .i64 z).wf = true
  lr : IRow W x.a x.l
  pnw : (Lit.int .i64 x.pn).wf = true
  pgw : (Lit.int .i64 x.pg).wf = true
  pl : x.pl.length ≤ maxLen
  pr : ClsAt W x.pa x.pl
  pc : x.pl.length ≤ x.pc
  pz : x.pa = none → x.pc = 0
theorem PActOk.below {W X : World} {x : PAct} (h : PActOk W x) (hb : Below W.heap.size W X) : PActOk X x := { h with lr := h.lr.below hb, pr := h.pr.below hb }
def PActs (w : World) (a : Option Addr) (L : List PAct) : Prop :=
  L = [] ∨ ∃ b off, a = some ⟨b, off, none⟩ ∧ ∀ i, i < L.length → (∀ j u, (L.getD i noPA).cells[j]? = some u → w.cell? ⟨b, off + i * 9 + j, none⟩ = some u) ∧ PActOk w (L.getD i noPA)
theorem PActs.below {w w' : World} {a : Option Addr} {L : List PAct} (h : PActs w a L) (hb : Below w.heap.size w w') : PActs w' a L := by
  rcases h with h | ⟨b, off, e, h⟩
  · exact .inl h
  · exact .inr ⟨b, off, e, fun i hi => ⟨fun j u hj => Dv.keep_cell hb ((h i hi).1 j u hj), (h i hi).2.below hb⟩⟩
section
variable {H : Type} {enc : TypeId × Value → H} {W : World} {n : Nat}
theorem pa_ints {c : Value} {y : DataW H × List MemPlace} (h : DataW.trod enc Tryz.prog W 0 (fun _ => true) true n 38 [c] = some y) :
    ∃ a l cap, c = .slice a l.length cap ∧ l.length ≤ maxLen ∧ (∀ z ∈ l, (Lit.int .i64 z).wf = true) ∧ IRow W a l := by
  rcases open_ints Tryz.underlying38 Tryz.underlying3 (show Tryz.prog.cellsOf 3 = 1 by kernel_rfl) h with ⟨hcs, _⟩ | ⟨a, len, cap, zs, hcs, _, hl, hm, hz, _, hcell, hws⟩
  · simp at hcs
    exact ⟨none, [], 0, hcs, by simp, fun z hz => by simp at hz, .inl rfl⟩
  · simp at hcs
    simp only [if_true] at hz
    have hlen : (zs.take len).length = len := by rw [List.length_take]; omega
    refine ⟨some a, zs.take len, cap, by rw [hlen]; exact hcs, by omega, fun z hz => hws z (List.mem_of_mem_take hz), ?_⟩
    by_cases h0 : len = 0
    · left; subst h0; rfl
    · right
      obtain ⟨b, off, spot⟩ := a
      have hspot : spot = none := by simpa [Addr.add] using World.cell?_spot (hcell 0 (by omega))
      subst hspot
      refine ⟨b, off, rfl, fun i hi => ?_⟩
      rw [hlen] at hi
      have hp : (⟨b, off, none⟩ : Addr).add i = ⟨b, off + i, none⟩ := by unfold Addr.add; split <;> simp_all
      have := hcell i (by omega)
      rw [hp] at this
      rw [this]
      simp [List.getD_eq_getElem?_getD, hi]
theorem pa_list9 {α : Type} {cs : List α} (h : cs.length = 9) : ∃ c0 c1 c2 c3 c4 c5 c6 c7 c8, cs = [c0, c1, c2, c3, c4, c5, c6, c7, c8] := by
  match cs, h with
  | [c0, c1, c2, c3, c4, c5, c6, c7, c8], _ => exact ⟨c0, c1, c2, c3, c4, c5, c6, c7, c8, rfl⟩
theorem pa_cells : Tryz.prog.cellsOf 42 = 9 := by kernel_rfl
set_option maxRecDepth 100000 in
theorem pa_one {cs : List Value} {y : DataW H × List MemPlace} (hl : cs.length = 9) (h : DataW.trod enc Tryz.prog W 0 (fun _ => true) true n 42 cs = some y) :
    ∃ x : PAct, cs = x.cells ∧ PActOk W x := by
  obtain ⟨c0, c1, c2, c3, c4, c5, c6, c7, c8, rfl⟩ := pa_list9 hl
  obtain ⟨xs, m, _, _, _, hlen, hx⟩ := DataW.trod_struct Tryz.underlying42 h
  match xs, hlen with
  | [y0, y1, y2, y3, y4, y5], _ =>
    obtain ⟨k, rfl, w0⟩ := pg_int (c := c0) (hx 0 _ rfl)
    obtain ⟨nn, rfl, w1⟩ := pg_int (c := c1) (hx 1 _ rfl)
    obtain ⟨a, l, c, rfl, w2, w3, w4⟩ := pa_ints (c := c2) (hx 2 _ rfl)
    obtain ⟨key, rfl⟩ := pg_str (c := c3) (hx 3 _ rfl)
    obtain ⟨v, hv⟩ := vl_one (cs := [c4, c5]) rfl (hx 4 _ rfl)
    have hp : DataW.trod enc Tryz.prog W 0 (fun _ => true) true _ 36 [c6, c7, c8] = some y5 := hx 5 _ rfl
    obtain ⟨zs, m2, _, _, _, hlen2, hz⟩ := DataW.trod_struct Tryz.underlying36 hp
    match zs, hlen2 with
    | [z0, z1, z2], _ =>
      obtain ⟨pn, rfl, w6⟩ := pg_int (c := c6) (hz 0 _ rfl)
      obtain ⟨pg, rfl, w7⟩ := pg_int (c := c7) (hz 1 _ rfl)
      obtain ⟨pa, pl, pc, rfl, w8, w9, w10, w11⟩ := one_cls (c := c8) (hz 2 _ rfl)
      injection hv with hv1 hv2
      injection hv2 with hv2 _
      subst hv1 hv2
      exact ⟨⟨k, nn, a, l, c, key, v.1, v.2, pn, pg, pa, pl, pc⟩, rfl, ⟨w0, w1, w2, w3, w4, w6, w7, w8, w9, w10, w11⟩⟩
theorem pa_list {P : Nat → PAct → Prop} (m : Nat) (h : ∀ i, i < m → ∃ x, P i x) : ∃ L : List PAct, L.length = m ∧ ∀ i, i < m → P i (L.getD i noPA) := by
  induction m with
  | zero => exact ⟨[], rfl, fun i hi => by omega⟩
  | succ m ih =>
    obtain ⟨L, hl, hp⟩ := ih (fun i hi => h i (by omega))
    obtain ⟨x, hx⟩ := h m (by omega)
    refine ⟨L ++ [x], by simp [hl], fun i hi => ?_⟩
    rw [List.getD_eq_getElem?_getD]
    by_cases e : i < m
    · rw [List.getElem?_append_left (by omega), ← List.getD_eq_getElem?_getD]; exact hp i e
    · have : i = m := by omega
      subst this
      rw [List.getElem?_append_right (by omega), hl]; simpa using hx
set_option maxRecDepth 100000 in
theorem pas_open {base : Nat} {v : Value} {d : DataW H} {p : List MemPlace} (hv : Value.okWide Tryz.prog W .any base 22 v) (h : DataW.Trod enc Tryz.prog W 0 (fun _ => true) true 22 v d p) :
    ∃ (a : Option Addr) (L : List PAct) (cap : Nat), v = .slice a L.length cap ∧ L.length ≤ maxLen ∧ PActs W a L := by
  obtain ⟨a0, len, cap, rfl⟩ := okWide_slice Tryz.underlying22 hv
  obtain ⟨fuel, hf⟩ := h
  rcases Go.Deep.open_slice Tryz.underlying22 hf with ⟨hcs, _⟩ | ⟨a, len', cap', m, k, D, Pl, hcs, _, hl, hm, hmm, _, hi⟩
  · simp [Value.cells] at hcs
    obtain ⟨rfl, rfl, rfl⟩ := hcs
    exact ⟨none, [], 0, rfl, by simp, .inl rfl⟩
  · simp [Value.cells] at hcs
    obtain ⟨rfl, rfl, rfl⟩ := hcs
    simp only [if_true] at hmm
    rw [pa_cells] at hi
    by_cases h0 : len = 0
    · subst h0
      exact ⟨some a, [], cap, rfl, by simp, .inl rfl⟩
    · have hone : ∀ i, i < len → ∃ x : PAct, PActOk W x ∧ ∀ j u, x.cells[j]? = some u → W.cell? ((a.add (i * 9)).add j) = some u := fun i hil => by
        obtain ⟨cs', hc, ht⟩ := hi i (by omega)
        obtain ⟨_, hcl, hat⟩ := World.cells?_some hc
        obtain ⟨x, hx, hok⟩ := pa_one hcl ht
        refine ⟨x, hok, fun j u hj => ?_⟩
        have hjl : j < 9 := by
          obtain ⟨hlt, _⟩ := List.getElem?_eq_some_iff.1 hj
          simpa [PAct.cells] using hlt
        rw [hat j hjl, hx]; exact hj
      obtain ⟨L, hL, hP⟩ := pa_list len hone
      obtain ⟨b, off, spot⟩ := a
      have hspot : spot = none := by
        have h1 := (hP 0 (by omega)).2 0 _ rfl
        simpa [Addr.add] using World.cell?_spot h1
      subst hspot
      have hp : ∀ i j, ((⟨b, off, none⟩ : Addr).add i).add j = ⟨b, off + i + j, none⟩ := fun i j => by unfold Addr.add; split <;> split <;> simp_all
      refine ⟨some ⟨b, off, none⟩, L, cap, by rw [hL], by omega, .inr ⟨b, off, rfl, fun i hil => ⟨fun j u hj => ?_, (hP i (by omega)).1⟩⟩⟩
      have := (hP i (by omega)).2 j u hj
      rwa [hp] at this
end
end Go.Proofs.YtkemhkmabbladaaGreatDoor
