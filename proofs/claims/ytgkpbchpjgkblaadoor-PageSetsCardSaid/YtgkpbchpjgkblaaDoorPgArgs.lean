/-
  ARGUMENTS OPENED: a slice of texts, a slice of values.
-/
import Derived.Test.YtgkpbchpjgkblaaDoorPgOpen
import Derived.Test.YtgkpbchpjgkblaaDoorPgRec
namespace Go.Proofs.YtgkpbchpjgkblaaDoor
open Go.ChangeShapes Go.WideShapes Go.ChangeAt Go.RowKit
section
variable {H : Type} {enc : TypeId × Value → H} {W : World} {n : Nat}
set_option maxRecDepth 100000
theorem list_ofV {P : Nat → (Bool × ByteArray) → Prop} (m : Nat) (h : ∀ i, i < m → ∃ x, P i x) : ∃ A : List (Bool × ByteArray), A.length = m ∧ ∀ i, i < m → P i (A.getD i (false, ByteArray.empty)) := by
  induction m with
  | zero => exact ⟨[], rfl, fun i hi => by omega⟩
  | succ m ih =>
    obtain ⟨A, hl, hp⟩ := ih (fun i hi => h i (by omega))
    obtain ⟨x, hx⟩ := h m (by omega)
    refine ⟨A ++ [x], by simp [hl], fun i hi => ?_⟩
    rw [List.getD_eq_getElem?_getD]
    by_cases e : i < m
    · rw [List.getElem?_append_left (by omega), ← List.getD_eq_getElem?_getD]; exact hp i e
    · have : i = m := by omega
      subst this
      rw [List.getElem?_append_right (by omega), hl]; simpa using hx
theorem one_vls {c : Value} {y : DataW H × List MemPlace} (hf : DataW.trod enc Tryd.prog W 0 (fun _ => true) true n 33 [c] = some y) :
    ∃ (a : Option Addr) (A : List (Bool × ByteArray)) (cap : Nat), c = .slice a A.length cap ∧ A.length ≤ maxLen ∧ ValsAt W a A ∧ A.length ≤ cap ∧ (a = none → cap = 0) := by
  rcases Go.Deep.open_slice Tryd.underlying33 hf with ⟨hcs, _⟩ | ⟨a, len, cap, m, k, Dt, Pl, hcs, _, hl, hm, hmm, hx, hi⟩
  · simp at hcs
    exact ⟨none, [], 0, hcs, by simp, .inl rfl, by simp, fun _ => rfl⟩
  · simp at hcs
    simp only [if_true] at hmm
    rw [val_cells] at hi
    by_cases h0 : len = 0
    · subst h0
      exact ⟨some a, [], cap, hcs, by simp, .inl rfl, by simp, fun e => by cases e⟩
    · have hone : ∀ i, i < len → ∃ x : Bool × ByteArray, ∀ j u, ([.bool x.1, .string x.2] : List Value)[j]? = some u → W.cell? ((a.add (i * 2)).add j) = some u := fun i hil => by
        obtain ⟨cs', hc, ht⟩ := hi i (by omega)
        obtain ⟨_, hcl, hat⟩ := World.cells?_some hc
        obtain ⟨x, hx⟩ := vl_one hcl ht
        refine ⟨x, fun j u hj => ?_⟩
        have hjl : j < 2 := by
          obtain ⟨hlt, _⟩ := List.getElem?_eq_some_iff.1 hj
          simpa using hlt
        rw [hat j hjl, hx]; exact hj
      obtain ⟨A, hA, hP⟩ := list_ofV len hone
      obtain ⟨b, off, spot⟩ := a
      have hspot : spot = none := by
        have h1 := hP 0 (by omega) 0 _ rfl
        simpa [Addr.add] using World.cell?_spot h1
      subst hspot
      have hp : ∀ i j, ((⟨b, off, none⟩ : Addr).add i).add j = ⟨b, off + i + j, none⟩ := fun i j => by unfold Addr.add; split <;> split <;> simp_all
      refine ⟨some ⟨b, off, none⟩, A, cap, by rw [hA]; exact hcs, by omega, .inr ⟨b, off, rfl, fun i hil => ?_⟩, by omega, fun e => by cases e⟩
      have h1 := hP i (by omega)
      refine ⟨?_, ?_⟩
      · have := h1 0 _ rfl; rwa [hp] at this
      · have := h1 1 _ rfl; rwa [hp] at this
theorem list_ofS {P : Nat → ByteArray → Prop} (m : Nat) (h : ∀ i, i < m → ∃ x, P i x) : ∃ A : List ByteArray, A.length = m ∧ ∀ i, i < m → P i (A.getD i ByteArray.empty) := by
  induction m with
  | zero => exact ⟨[], rfl, fun i hi => by omega⟩
  | succ m ih =>
    obtain ⟨A, hl, hp⟩ := ih (fun i hi => h i (by omega))
    obtain ⟨x, hx⟩ := h m (by omega)
    refine ⟨A ++ [x], by simp [hl], fun i hi => ?_⟩
    rw [List.getD_eq_getElem?_getD]
    by_cases e : i < m
    · rw [List.getElem?_append_left (by omega), ← List.getD_eq_getElem?_getD]; exact hp i e
    · have : i = m := by omega
      subst this
      rw [List.getElem?_append_right (by omega), hl]; simpa using hx
theorem str_cells : Tryd.prog.cellsOf 9 = 1 := by kernel_rfl
theorem one_strs {c : Value} {y : DataW H × List MemPlace} (hf : DataW.trod enc Tryd.prog W 0 (fun _ => true) true n 32 [c] = some y) :
    ∃ (a : Option Addr) (A : List ByteArray) (cap : Nat), c = .slice a A.length cap ∧ A.length ≤ maxLen ∧ KeysAt W a A ∧ A.length ≤ cap ∧ (a = none → cap = 0) := by
  rcases Go.Deep.open_slice Tryd.underlying32 hf with ⟨hcs, _⟩ | ⟨a, len, cap, m, k, Dt, Pl, hcs, _, hl, hm, hmm, hx, hi⟩
  · simp at hcs
    exact ⟨none, [], 0, hcs, by simp, .inl rfl, by simp, fun _ => rfl⟩
  · simp at hcs
    simp only [if_true] at hmm
    rw [str_cells] at hi
    by_cases h0 : len = 0
    · subst h0
      exact ⟨some a, [], cap, hcs, by simp, .inl rfl, by simp, fun e => by cases e⟩
    · have hone : ∀ i, i < len → ∃ x : ByteArray, W.cell? ((a.add (i * 1)).add 0) = some (.string x) := fun i hil => by
        obtain ⟨cs', hc, ht⟩ := hi i (by omega)
        obtain ⟨_, hcl, hat⟩ := World.cells?_some hc
        match cs', hcl with
        | [c0], _ =>
          obtain ⟨x, rfl⟩ := pg_str (c := c0) ht
          exact ⟨x, by rw [hat 0 (by omega)]; rfl⟩
      obtain ⟨A, hA, hP⟩ := list_ofS len hone
      obtain ⟨b, off, spot⟩ := a
      have hspot : spot = none := by
        have h1 := hP 0 (by omega)
        simpa [Addr.add] using World.cell?_spot h1
      subst hspot
      have hp : ∀ i j, ((⟨b, off, none⟩ : Addr).add i).add j = ⟨b, off + i + j, none⟩ := fun i j => by unfold Addr.add; split <;> split <;> simp_all
      refine ⟨some ⟨b, off, none⟩, A, cap, by rw [hA]; exact hcs, by omega, .inr ⟨b, off, rfl, fun i hil => ?_⟩, by omega, fun e => by cases e⟩
      have h1 := hP i (by omega)
      rw [hp] at h1
      simpa using h1
theorem pstrs_open {base : Nat} {v : Value} {d : DataW H} {p : List MemPlace} (hv : Value.okWide Tryd.prog W .any base 32 v) (h : DataW.Trod enc Tryd.prog W 0 (fun _ => true) true 32 v d p) :
    ∃ (a : Option Addr) (A : List ByteArray) (cap : Nat), v = .slice a A.length cap ∧ A.length ≤ maxLen ∧ KeysAt W a A ∧ A.length ≤ cap ∧ (a = none → cap = 0) := by
  obtain ⟨a, len, cap, rfl⟩ := okWide_slice Tryd.underlying32 hv
  obtain ⟨fuel, hf⟩ := h
  exact one_strs hf
theorem pvals_open {base : Nat} {v : Value} {d : DataW H} {p : List MemPlace} (hv : Value.okWide Tryd.prog W .any base 33 v) (h : DataW.Trod enc Tryd.prog W 0 (fun _ => true) true 33 v d p) :
    ∃ (a : Option Addr) (A : List (Bool × ByteArray)) (cap : Nat), v = .slice a A.length cap ∧ A.length ≤ maxLen ∧ ValsAt W a A ∧ A.length ≤ cap ∧ (a = none → cap = 0) := by
  obtain ⟨a, len, cap, rfl⟩ := okWide_slice Tryd.underlying33 hv
  obtain ⟨fuel, hf⟩ := h
  exact one_vls hf
end
end Go.Proofs.YtgkpbchpjgkblaaDoor
