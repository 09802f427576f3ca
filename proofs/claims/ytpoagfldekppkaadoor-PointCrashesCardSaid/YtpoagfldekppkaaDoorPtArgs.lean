/-
  ARGUMENTS OPENED: a point, a head by value; a slice of points, a slice of whole numbers.
-/
import Derived.Test.YtpoagfldekppkaaDoorPtLow
import Derived.ProofKit
import Derived.OpenShut
import Derived.Deep.Slices
import Derived.Deep.Fields
namespace Go.Proofs.YtpoagfldekppkaaDoor
open Go.ChangeShapes Go.WideShapes Go.ChangeAt Go.RowKit
def noPt : Int × Int := (0, 0)
/-- Points at a slice. -/
def PtsAt (W : World) (a : Option Addr) (l : List (Int × Int)) : Prop := l = [] ∨ ∃ b off, a = some ⟨b, off, none⟩ ∧ ∀ i, i < l.length →
  W.cell? ⟨b, off + i * 2 + 0, none⟩ = some (.int .i64 (l.getD i noPt).1) ∧ W.cell? ⟨b, off + i * 2 + 1, none⟩ = some (.int .i64 (l.getD i noPt).2)
theorem PtsAt.below {W X : World} {a : Option Addr} {l : List (Int × Int)} (h : PtsAt W a l) (hb : Below W.heap.size W X) : PtsAt X a l := by
  rcases h with rfl | ⟨b, off, e, h⟩
  · exact .inl rfl
  · exact .inr ⟨b, off, e, fun i hi => ⟨keep_h hb (h i hi).1, keep_h hb (h i hi).2⟩⟩
theorem i64_wf {n : Int} (h : (Lit.int .i64 n).wf = true) : -9223372036854775808 ≤ n ∧ n ≤ 9223372036854775807 := by
  simp [Lit.wf, IntKind.min, IntKind.max, IntKind.signed, IntKind.bits] at h
  omega
section
variable {H : Type} {enc : TypeId × Value → H} {W : World} {n : Nat}
theorem hone_int {c : Value} {y : DataW H × List MemPlace} (h : DataW.trod enc Tryd.prog W 0 (fun _ => true) true n 3 [c] = some y) : ∃ z, c = .int .i64 z ∧ (Lit.int .i64 z).wf = true := by
  obtain ⟨z, e, _, w⟩ := DataW.trod_int Tryd.underlying3 h
  exact ⟨z, by simpa using e, w⟩
theorem hlist2 {α : Type} {cs : List α} (h : cs.length = 2) : ∃ c0 c1, cs = [c0, c1] := by
  match cs, h with
  | [c0, c1], _ => exact ⟨c0, c1, rfl⟩
theorem pt_cells : Tryd.prog.cellsOf 34 = 2 := by kernel_rfl
set_option maxRecDepth 100000 in
theorem pt_one {cs : List Value} {y : DataW H × List MemPlace} (hl : cs.length = 2) (h : DataW.trod enc Tryd.prog W 0 (fun _ => true) true n 34 cs = some y) :
    ∃ q : Int × Int, cs = [.int .i64 q.1, .int .i64 q.2] := by
  obtain ⟨c0, c1, rfl⟩ := hlist2 hl
  obtain ⟨xs, m, _, _, _, hlen, hx⟩ := DataW.trod_struct Tryd.underlying34 h
  match xs, hlen with
  | [y0, y1], _ =>
    have t0 := hx 0 _ rfl
    have t1 := hx 1 _ rfl
    obtain ⟨s, rfl, w0⟩ := hone_int (c := c0) t0
    obtain ⟨e, rfl, w1⟩ := hone_int (c := c1) t1
    exact ⟨(s, e), rfl⟩
set_option maxRecDepth 100000 in
theorem pt_open2 {base : Nat} {v : Value} {d : DataW H} {p : List MemPlace} (hv : Value.okWide Tryd.prog W .any base 34 v) (h : DataW.Trod enc Tryd.prog W 0 (fun _ => true) true 34 v d p) :
    ∃ s e, v = .agg #[.int .i64 s, .int .i64 e] := by
  obtain ⟨cs, rfl, hsz⟩ := okWide_struct (P := Tryd.prog) (w := W) (r := .any) (base := base) (t := 34) (v := v) Tryd.underlying34 hv
  obtain ⟨fuel, hf⟩ := h
  obtain ⟨q, hx⟩ := pt_one (cs := cs.toList) (by simpa using hsz.trans pt_cells) (by simpa [Value.cells] using hf)
  refine ⟨q.1, q.2, ?_⟩
  congr 1
  apply Array.toList_inj.1
  exact hx
theorem plist_of {P : Nat → (Int × Int) → Prop} (m : Nat) (h : ∀ i, i < m → ∃ x, P i x) : ∃ L : List (Int × Int), L.length = m ∧ ∀ i, i < m → P i (L.getD i noPt) := by
  induction m with
  | zero => exact ⟨[], rfl, fun i hi => by omega⟩
  | succ m ih =>
    obtain ⟨L, hl, hp⟩ := ih (fun i hi => h i (by omega))
    obtain ⟨x, hx⟩ := h m (by omega)
    refine ⟨L ++ [x], by simp [hl], fun i hi => ?_⟩
    rw [List.getD_eq_getElem?_getD]
    by_cases e : i < m
    · rw [List.getElem?_append_left (by omega), ← List.getD_eq_getElem?_getD]; exact hp i e
    · have : i = m := by omega
      subst this
      rw [List.getElem?_append_right (by omega), hl]; simpa using hx
set_option maxRecDepth 100000 in
theorem pts_open {base : Nat} {v : Value} {d : DataW H} {p : List MemPlace} (hv : Value.okWide Tryd.prog W .any base 26 v) (h : DataW.Trod enc Tryd.prog W 0 (fun _ => true) true 26 v d p) :
    ∃ (a : Option Addr) (L : List (Int × Int)) (cap : Nat), v = .slice a L.length cap ∧ L.length ≤ maxLen ∧ PtsAt W a L := by
  obtain ⟨a0, len, cap, rfl⟩ := okWide_slice Tryd.underlying26 hv
  obtain ⟨fuel, hf⟩ := h
  rcases Go.Deep.open_slice Tryd.underlying26 hf with ⟨hcs, _⟩ | ⟨a, len', cap', m, k, D, Pl, hcs, _, hl, hm, hmm, _, hi⟩
  · simp [Value.cells] at hcs
    obtain ⟨rfl, rfl, rfl⟩ := hcs
    exact ⟨none, [], 0, rfl, by simp, .inl rfl⟩
  · simp [Value.cells] at hcs
    obtain ⟨rfl, rfl, rfl⟩ := hcs
    simp only [if_true] at hmm
    rw [pt_cells] at hi
    by_cases h0 : len = 0
    · subst h0
      exact ⟨some a, [], cap, rfl, by simp, .inl rfl⟩
    · have hone : ∀ i, i < len → ∃ q : (Int × Int), ∀ j u, ([.int .i64 q.1, .int .i64 q.2] : List Value)[j]? = some u → W.cell? ((a.add (i * 2)).add j) = some u := fun i hil => by
        obtain ⟨cs', hc, ht⟩ := hi i (by omega)
        obtain ⟨_, hcl, hat⟩ := World.cells?_some hc
        obtain ⟨x, hx⟩ := pt_one hcl ht
        refine ⟨x, fun j u hj => ?_⟩
        have hjl : j < 2 := by
          obtain ⟨hlt, _⟩ := List.getElem?_eq_some_iff.1 hj
          simpa using hlt
        rw [hat j hjl, hx]; exact hj
      obtain ⟨L, hL, hP⟩ := plist_of len hone
      obtain ⟨b, off, spot⟩ := a
      have hspot : spot = none := by
        have h1 := hP 0 (by omega) 0 _ rfl
        simpa [Addr.add] using World.cell?_spot h1
      subst hspot
      have hp : ∀ i j, ((⟨b, off, none⟩ : Addr).add i).add j = ⟨b, off + i + j, none⟩ := fun i j => by unfold Addr.add; split <;> split <;> simp_all
      refine ⟨some ⟨b, off, none⟩, L, cap, by rw [hL], by omega, .inr ⟨b, off, rfl, fun i hil => ?_⟩⟩
      have h1 := hP i (by omega)
      refine ⟨?_, ?_⟩
      · have := h1 0 _ rfl; rwa [hp] at this
      · have := h1 1 _ rfl; rwa [hp] at this
theorem hlist5 {α : Type} {cs : List α} (h : cs.length = 5) : ∃ c0 c1 c2 c3 c4, cs = [c0, c1, c2, c3, c4] := by
  match cs, h with
  | [c0, c1, c2, c3, c4], _ => exact ⟨c0, c1, c2, c3, c4, rfl⟩
theorem hd_cells : Tryd.prog.cellsOf 44 = 5 := by kernel_rfl
set_option maxRecDepth 100000 in
theorem hd_one {cs : List Value} {y : DataW H × List MemPlace} (hl : cs.length = 5) (h : DataW.trod enc Tryd.prog W 0 (fun _ => true) true n 44 cs = some y) :
    ∃ s e c st m, cs = [.int .i64 s, .int .i64 e, .int .i64 c, .int .i64 st, .int .i64 m] := by
  obtain ⟨c0, c1, c2, c3, c4, rfl⟩ := hlist5 hl
  obtain ⟨xs, m, _, _, _, hlen, hx⟩ := DataW.trod_struct Tryd.underlying44 h
  match xs, hlen with
  | [y0, y1, y2, y3, y4], _ =>
    have t0 := hx 0 _ rfl
    have t1 := hx 1 _ rfl
    have t2 := hx 2 _ rfl
    have t3 := hx 3 _ rfl
    have t4 := hx 4 _ rfl
    obtain ⟨s, rfl, w0⟩ := hone_int (c := c0) t0
    obtain ⟨e, rfl, w1⟩ := hone_int (c := c1) t1
    obtain ⟨c, rfl, w2⟩ := hone_int (c := c2) t2
    obtain ⟨st, rfl, w3⟩ := hone_int (c := c3) t3
    obtain ⟨z, rfl, w4⟩ := hone_int (c := c4) t4
    exact ⟨s, e, c, st, z, rfl⟩
set_option maxRecDepth 100000 in
theorem hd_open {base : Nat} {v : Value} {d : DataW H} {p : List MemPlace} (hv : Value.okWide Tryd.prog W .any base 44 v) (h : DataW.Trod enc Tryd.prog W 0 (fun _ => true) true 44 v d p) :
    ∃ s e c st m, v = .agg #[.int .i64 s, .int .i64 e, .int .i64 c, .int .i64 st, .int .i64 m] := by
  obtain ⟨cs, rfl, hsz⟩ := okWide_struct (P := Tryd.prog) (w := W) (r := .any) (base := base) (t := 44) (v := v) Tryd.underlying44 hv
  obtain ⟨fuel, hf⟩ := h
  obtain ⟨s, e, c, st, m, hx⟩ := hd_one (cs := cs.toList) (by simpa using hsz.trans hd_cells) (by simpa [Value.cells] using hf)
  refine ⟨s, e, c, st, m, ?_⟩
  congr 1
  apply Array.toList_inj.1
  exact hx
theorem hone_ints {c : Value} {y : DataW H × List MemPlace} (h : DataW.trod enc Tryd.prog W 0 (fun _ => true) true n 22 [c] = some y) :
    ∃ a l cap, c = .slice a l.length cap ∧ (∀ z ∈ l, (Lit.int .i64 z).wf = true) ∧ l.length ≤ maxLen ∧ l.length ≤ cap ∧ IntsAt W a l := by
  rcases open_ints Tryd.underlying22 Tryd.underlying3 (show Tryd.prog.cellsOf 3 = 1 by kernel_rfl) h with ⟨hcs, _⟩ | ⟨a, len, cap, zs, hcs, _, hl, hm, hz, _, hcell, hws⟩
  · simp at hcs
    exact ⟨none, [], 0, hcs, fun n hn => by simp at hn, by simp, by simp, .inl rfl⟩
  · simp at hcs
    simp only [if_true] at hz
    have hlen : (zs.take len).length = len := by rw [List.length_take]; omega
    refine ⟨some a, zs.take len, cap, by rw [hlen]; exact hcs, fun n hn => hws n (List.mem_of_mem_take hn), by omega, by omega, ?_⟩
    by_cases h0 : len = 0
    · left; subst h0; rfl
    · right
      obtain ⟨b, off, spot⟩ := a
      have hspot : spot = none := by simpa [Addr.add] using World.cell?_spot (hcell 0 (by omega))
      subst hspot
      refine ⟨b, off, rfl, fun i hi => ?_⟩
      rw [hlen] at hi
      have hp : (⟨b, off, none⟩ : Addr).add i = ⟨b, off + i, none⟩ := by unfold Addr.add; split <;> simp_all
      have := hcell i (by omega)
      rw [hp] at this
      rw [this]
      simp [List.getD_eq_getElem?_getD, hi]
set_option maxRecDepth 100000 in
theorem hits_open {base : Nat} {v : Value} {d : DataW H} {p : List MemPlace} (hv : Value.okWide Tryd.prog W .any base 22 v) (h : DataW.Trod enc Tryd.prog W 0 (fun _ => true) true 22 v d p) :
    ∃ (a : Option Addr) (l : List Int) (cap : Nat), v = .slice a l.length cap ∧ l.length ≤ maxLen ∧ (∀ z ∈ l, (Lit.int .i64 z).wf = true) ∧ IntsAt W a l := by
  obtain ⟨a0, len, cap, rfl⟩ := okWide_slice Tryd.underlying22 hv
  obtain ⟨fuel, hf⟩ := h
  obtain ⟨a, l, c, e, h1, h2, _, h3⟩ := hone_ints (c := .slice a0 len cap) (by simpa [Value.cells] using hf)
  exact ⟨a, l, c, e, h2, h1, h3⟩
end
end Go.Proofs.YtpoagfldekppkaaDoor
