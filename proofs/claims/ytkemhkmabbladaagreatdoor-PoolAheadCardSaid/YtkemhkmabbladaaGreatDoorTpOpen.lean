/-
  ARGUMENTS OPENED: a page.
-/
import Derived.Test.YtkemhkmabbladaaGreatDoorTpA
import Derived.ProofKit
import Derived.OpenShut
import Derived.Deep.Slices
import Derived.Deep.Fields
import Derived.SizedLaws
namespace Go.Proofs.YtkemhkmabbladaaGreatDoor
open Go.ChangeShapes Go.WideShapes Go.ChangeAt Go.RowKit
section
variable {H : Type} {enc : TypeId × Value → H} {W : World} {n : Nat}
set_option maxRecDepth 100000
theorem pg_int {c : Value} {y : DataW H × List MemPlace} (h : DataW.trod enc Tryz.prog W 0 (fun _ => true) true n 3 [c] = some y) : ∃ z, c = .int .i64 z ∧ (Lit.int .i64 z).wf = true := by
  obtain ⟨z, e, _, w⟩ := DataW.trod_int Tryz.underlying3 h
  exact ⟨z, by simpa using e, w⟩
theorem pg_str {c : Value} {y : DataW H × List MemPlace} (h : DataW.trod enc Tryz.prog W 0 (fun _ => true) true n 9 [c] = some y) : ∃ s, c = .string s := by
  obtain ⟨s, e, _⟩ := DataW.trod_string Tryz.underlying9 h
  exact ⟨s, by simpa using e⟩
theorem list2 {α : Type} {cs : List α} (h : cs.length = 2) : ∃ c0 c1, cs = [c0, c1] := by
  match cs, h with
  | [c0, c1], _ => exact ⟨c0, c1, rfl⟩
theorem list3 {α : Type} {cs : List α} (h : cs.length = 3) : ∃ c0 c1 c2, cs = [c0, c1, c2] := by
  match cs, h with
  | [c0, c1, c2], _ => exact ⟨c0, c1, c2, rfl⟩
theorem cell_cells : Tryz.prog.cellsOf 89 = 2 := by kernel_rfl
theorem page_cells : Tryz.prog.cellsOf 36 = 3 := by kernel_rfl
theorem cl_one {cs : List Value} {y : DataW H × List MemPlace} (hl : cs.length = 2) (h : DataW.trod enc Tryz.prog W 0 (fun _ => true) true n 89 cs = some y) :
    ∃ x : ByteArray × ByteArray, cs = [.string x.1, .string x.2] := by
  obtain ⟨c0, c1, rfl⟩ := list2 hl
  obtain ⟨xs, m, _, _, _, hlen, hx⟩ := DataW.trod_struct Tryz.underlying89 h
  match xs, hlen with
  | [y0, y1], _ =>
    obtain ⟨k, rfl⟩ := pg_str (c := c0) (hx 0 _ rfl)
    obtain ⟨z, rfl⟩ := pg_str (c := c1) (hx 1 _ rfl)
    exact ⟨(k, z), rfl⟩
theorem list_ofC {P : Nat → (ByteArray × ByteArray) → Prop} (m : Nat) (h : ∀ i, i < m → ∃ x, P i x) : ∃ A : List (ByteArray × ByteArray), A.length = m ∧ ∀ i, i < m → P i (A.getD i noCl) := by
  induction m with
  | zero => exact ⟨[], rfl, fun i hi => by omega⟩
  | succ m ih =>
    obtain ⟨A, hl, hp⟩ := ih (fun i hi => h i (by omega))
    obtain ⟨x, hx⟩ := h m (by omega)
    refine ⟨A ++ [x], by simp [hl], fun i hi => ?_⟩
    rw [List.getD_eq_getElem?_getD]
    by_cases e : i < m
    · rw [List.getElem?_append_left (by omega), ← List.getD_eq_getElem?_getD]; exact hp i e
    · have : i = m := by omega
      subst this
      rw [List.getElem?_append_right (by omega), hl]; simpa using hx
theorem one_cls {c : Value} {y : DataW H × List MemPlace} (hf : DataW.trod enc Tryz.prog W 0 (fun _ => true) true n 34 [c] = some y) :
    ∃ (a : Option Addr) (A : List (ByteArray × ByteArray)) (cap : Nat), c = .slice a A.length cap ∧ A.length ≤ maxLen ∧ ClsAt W a A ∧ A.length ≤ cap ∧ (a = none → cap = 0) := by
  rcases Go.Deep.open_slice Tryz.underlying34 hf with ⟨hcs, _⟩ | ⟨a, len, cap, m, k, Dt, Pl, hcs, _, hl, hm, hmm, hx, hi⟩
  · simp at hcs
    exact ⟨none, [], 0, hcs, by simp, .inl rfl, by simp, fun _ => rfl⟩
  · simp at hcs
    simp only [if_true] at hmm
    rw [cell_cells] at hi
    by_cases h0 : len = 0
    · subst h0
      exact ⟨some a, [], cap, hcs, by simp, .inl rfl, by simp, fun e => by cases e⟩
    · have hone : ∀ i, i < len → ∃ x : ByteArray × ByteArray, ∀ j u, ([.string x.1, .string x.2] : List Value)[j]? = some u → W.cell? ((a.add (i * 2)).add j) = some u := fun i hil => by
        obtain ⟨cs', hc, ht⟩ := hi i (by omega)
        obtain ⟨_, hcl, hat⟩ := World.cells?_some hc
        obtain ⟨x, hx⟩ := cl_one hcl ht
        refine ⟨x, fun j u hj => ?_⟩
        have hjl : j < 2 := by
          obtain ⟨hlt, _⟩ := List.getElem?_eq_some_iff.1 hj
          simpa using hlt
        rw [hat j hjl, hx]; exact hj
      obtain ⟨A, hA, hP⟩ := list_ofC len hone
      obtain ⟨b, off, spot⟩ := a
      have hspot : spot = none := by
        have h1 := hP 0 (by omega) 0 _ rfl
        simpa [Addr.add] using World.cell?_spot h1
      subst hspot
      have hp : ∀ i j, ((⟨b, off, none⟩ : Addr).add i).add j = ⟨b, off + i + j, none⟩ := fun i j => by unfold Addr.add; split <;> split <;> simp_all
      refine ⟨some ⟨b, off, none⟩, A, cap, by rw [hA]; exact hcs, by omega, .inr ⟨b, off, rfl, fun i hil => ?_⟩, by omega, fun e => by cases e⟩
      have h1 := hP i (by omega)
      refine ⟨?_, ?_⟩
      · have := h1 0 _ rfl; rwa [hp] at this
      · have := h1 1 _ rfl; rwa [hp] at this
theorem page_open {base : Nat} {v : Value} {d : DataW H} {p : List MemPlace} (hv : Value.okWide Tryz.prog W .any base 36 v) (h : DataW.Trod enc Tryz.prog W 0 (fun _ => true) true 36 v d p) :
    ∃ (no g : Int) (a : Option Addr) (A : List (ByteArray × ByteArray)) (cap : Nat), v = .agg #[.int .i64 no, .int .i64 g, .slice a A.length cap] ∧ (Lit.int .i64 no).wf = true ∧ (Lit.int .i64 g).wf = true ∧ A.length ≤ maxLen ∧ ClsAt W a A ∧ A.length ≤ cap ∧ (a = none → cap = 0) := by
  obtain ⟨cs, rfl, hsz⟩ := okWide_struct (P := Tryz.prog) (w := W) (r := .any) (base := base) (t := 36) (v := v) Tryz.underlying36 hv
  obtain ⟨fuel, hf⟩ := h
  have hf : DataW.trod enc Tryz.prog W 0 (fun _ => true) true fuel 36 cs.toList = some (d, p) := by simpa [Value.cells] using hf
  obtain ⟨c0, c1, c2, hc⟩ := list3 (cs := cs.toList) (by simpa using hsz.trans page_cells)
  rw [hc] at hf
  obtain ⟨xs, m, _, _, _, hlen, hx⟩ := DataW.trod_struct Tryz.underlying36 hf
  match xs, hlen with
  | [y0, y1, y2], _ =>
    obtain ⟨no, rfl, w0⟩ := pg_int (c := c0) (hx 0 _ rfl)
    obtain ⟨g, rfl, w1⟩ := pg_int (c := c1) (hx 1 _ rfl)
    obtain ⟨a, A, cap, rfl, hl, ha, hlc, hz⟩ := one_cls (c := c2) (hx 2 _ rfl)
    refine ⟨no, g, a, A, cap, ?_, w0, w1, hl, ha, hlc, hz⟩
    congr 1
    apply Array.toList_inj.1
    rw [hc]
theorem pg_bool {c : Value} {y : DataW H × List MemPlace} (h : DataW.trod enc Tryz.prog W 0 (fun _ => true) true n 4 [c] = some y) : ∃ z, c = .bool z := by
  obtain ⟨z, e, _⟩ := DataW.trod_bool Tryz.underlying4 h
  exact ⟨z, by simpa using e⟩
theorem val_cells : Tryz.prog.cellsOf 40 = 2 := by kernel_rfl
theorem vl_one {cs : List Value} {y : DataW H × List MemPlace} (hl : cs.length = 2) (h : DataW.trod enc Tryz.prog W 0 (fun _ => true) true n 40 cs = some y) :
    ∃ x : Bool × ByteArray, cs = [.bool x.1, .string x.2] := by
  obtain ⟨c0, c1, rfl⟩ := list2 hl
  obtain ⟨xs, m, _, _, _, hlen, hx⟩ := DataW.trod_struct Tryz.underlying40 h
  match xs, hlen with
  | [y0, y1], _ =>
    obtain ⟨k, rfl⟩ := pg_bool (c := c0) (hx 0 _ rfl)
    obtain ⟨z, rfl⟩ := pg_str (c := c1) (hx 1 _ rfl)
    exact ⟨(k, z), rfl⟩
theorem val_open {base : Nat} {v : Value} {d : DataW H} {p : List MemPlace} (hv : Value.okWide Tryz.prog W .any base 40 v) (h : DataW.Trod enc Tryz.prog W 0 (fun _ => true) true 40 v d p) :
    ∃ (b : Bool) (s : ByteArray), v = .agg #[.bool b, .string s] ∧ True := by
  obtain ⟨cs, rfl, hsz⟩ := okWide_struct (P := Tryz.prog) (w := W) (r := .any) (base := base) (t := 40) (v := v) Tryz.underlying40 hv
  obtain ⟨fuel, hf⟩ := h
  have hf : DataW.trod enc Tryz.prog W 0 (fun _ => true) true fuel 40 cs.toList = some (d, p) := by simpa [Value.cells] using hf
  obtain ⟨x, hc⟩ := vl_one (cs := cs.toList) (by simpa using hsz.trans val_cells) hf
  refine ⟨x.1, x.2, ?_, trivial⟩
  congr 1
  apply Array.toList_inj.1
  rw [hc]
end
end Go.Proofs.YtkemhkmabbladaaGreatDoor
