/-
  WHAT IS NEEDED OF THE DEVICE'S TEXTS, AS FAR AS THIS SEAT HAS ITS FUNCTIONS (put together by wip/only-there.py).
-/
import Derived.Test.YtckhdknehdjhoaaDoorDvDoor
import Derived.ProofKit
import Derived.OpenShut
import Derived.Deep.Slices
import Derived.Deep.Fields
import Derived.SizedLaws
namespace Go.Proofs.YtckhdknehdjhoaaDoor
open Go.ChangeShapes Go.WideShapes Go.ChangeAt Go.RowKit
section
variable {H : Type} {enc : TypeId × Value → H} {W : World} {n : Nat}
def inReach (l : List Nat) : Prop := l.all (· ≤ reachBytes) = true
set_option maxRecDepth 100000
theorem inReach_append {a b : List Nat} : inReach (a ++ b) ↔ inReach a ∧ inReach b := by unfold inReach; rw [List.all_append, Bool.and_eq_true]
theorem inReach_cons {a : Nat} {b : List Nat} : inReach (a :: b) ↔ a ≤ reachBytes ∧ inReach b := by unfold inReach; rw [List.all_cons, Bool.and_eq_true, decide_eq_true_iff]
theorem weights_all_strs (e : TypeId) : ∀ (ss : List ByteArray), inReach (DataW.weightsAll (H := H) Tryd.prog e (strs ss)) → ∀ s ∈ ss, s.size ≤ reachBytes
  | [], _ => fun s hs => by cases hs
  | x :: ss, h => by
    have h1 : inReach ([x.data.toList.length] ++ DataW.weightsAll (H := H) Tryd.prog e (strs ss)) := h
    obtain ⟨h2, h3⟩ := inReach_append.1 h1
    intro s hs
    rcases List.mem_cons.1 hs with rfl | hs
    · have := (inReach_cons.1 h2).1
      rwa [ba_len] at this
    · exact weights_all_strs e ss h3 s hs
theorem weights_strs (ss sp : List ByteArray) (h : inReach ((DataW.slice (strs ss) (strs sp) : DataW H).weights Tryd.prog 31)) : ∀ s ∈ ss, s.size ≤ reachBytes := by
  unfold DataW.weights at h
  rw [Tryd.underlying31] at h
  exact weights_all_strs 9 ss (inReach_append.1 (inReach_cons.1 h).2).1
theorem one_int' {c : Value} {y : DataW H × List MemPlace} (h : DataW.trod enc Tryd.prog W 0 (fun _ => true) true n 3 [c] = some y) : ∃ z, c = .int .i64 z ∧ (Lit.int .i64 z).wf = true := by
  obtain ⟨z, e, _, w⟩ := DataW.trod_int Tryd.underlying3 h
  exact ⟨z, by simpa using e, w⟩
theorem one_bool' {c : Value} {y : DataW H × List MemPlace} (h : DataW.trod enc Tryd.prog W 0 (fun _ => true) true n 4 [c] = some y) : ∃ z, c = .bool z := by
  obtain ⟨z, e, _⟩ := DataW.trod_bool Tryd.underlying4 h
  exact ⟨z, by simpa using e⟩
theorem one_ints {c : Value} {y : DataW H × List MemPlace} (h : DataW.trod enc Tryd.prog W 0 (fun _ => true) true n 32 [c] = some y) :
    ∃ a l cap, c = .slice a l.length cap ∧ (∀ z ∈ l, (Lit.int .i64 z).wf = true) ∧ l.length ≤ maxLen ∧ IntsAt W a l := by
  rcases open_ints Tryd.underlying32 Tryd.underlying3 (show Tryd.prog.cellsOf 3 = 1 by kernel_rfl) h with ⟨hcs, _⟩ | ⟨a, len, cap, zs, hcs, _, hl, hm, hz, _, hcell, hws⟩
  · simp at hcs
    exact ⟨none, [], 0, hcs, fun n hn => by simp at hn, by simp, .inl rfl⟩
  · simp at hcs
    simp only [if_true] at hz
    have hlen : (zs.take len).length = len := by rw [List.length_take]; omega
    refine ⟨some a, zs.take len, cap, by rw [hlen]; exact hcs, fun n hn => hws n (List.mem_of_mem_take hn), by omega, ?_⟩
    by_cases h0 : len = 0
    · left; subst h0; rfl
    · right
      obtain ⟨b, off, spot⟩ := a
      have hspot : spot = none := by simpa [Addr.add] using World.cell?_spot (hcell 0 (by omega))
      subst hspot
      refine ⟨b, off, rfl, fun i hi => ?_⟩
      rw [hlen] at hi
      have hp : (⟨b, off, none⟩ : Addr).add i = ⟨b, off + i, none⟩ := by unfold Addr.add; split <;> simp_all
      have := hcell i (by omega)
      rw [hp] at this
      rw [this]
      simp [List.getD_eq_getElem?_getD, hi]
theorem one_strs {c : Value} {y : DataW H × List MemPlace} (h : DataW.trod enc Tryd.prog W 0 (fun _ => true) true n 31 [c] = some y) :
    ∃ a ss cap, c = .slice a ss.length cap ∧ ss.length ≤ maxLen ∧ StrsAt W a ss ∧ (inReach (y.1.weights Tryd.prog 31) → ∀ s ∈ ss, s.size ≤ reachBytes) := by
  rcases open_strings Tryd.underlying31 Tryd.underlying9 (show Tryd.prog.cellsOf 9 = 1 by kernel_rfl) h with ⟨hcs, _⟩ | ⟨a, len, cap, ss, hcs, _, hl, hm, hz, hx, hcell, hws⟩
  · simp at hcs
    exact ⟨none, [], 0, hcs, by simp, .inl rfl, fun _ s hs => by cases hs⟩
  · simp at hcs
    simp only [if_true] at hz
    have hlen : (ss.take len).length = len := by rw [List.length_take]; omega
    refine ⟨some a, ss.take len, cap, by rw [hlen]; exact hcs, by omega, ?_, fun hr => weights_strs _ _ (by rw [hx] at hr; exact hr)⟩
    by_cases h0 : len = 0
    · left; subst h0; rfl
    · right
      obtain ⟨b, off, spot⟩ := a
      have hspot : spot = none := by simpa [Addr.add] using World.cell?_spot (hcell 0 (by omega))
      subst hspot
      refine ⟨b, off, rfl, fun i hi => ?_⟩
      rw [hlen] at hi
      have hp : (⟨b, off, none⟩ : Addr).add i = ⟨b, off + i, none⟩ := by unfold Addr.add; split <;> simp_all
      have := hcell i (by omega)
      rw [hp] at this
      rw [this]
      simp [List.getD_eq_getElem?_getD, hi]
theorem list5 {α : Type} {cs : List α} (h : cs.length = 5) : ∃ c0 c1 c2 c3 c4, cs = [c0, c1, c2, c3, c4] := by
  match cs, h with
  | [c0, c1, c2, c3, c4], _ => exact ⟨c0, c1, c2, c3, c4, rfl⟩
theorem list_of {P : Nat → Da → Prop} (m : Nat) (h : ∀ i, i < m → ∃ x, P i x) : ∃ A : List Da, A.length = m ∧ ∀ i, i < m → P i (A.getD i noDa) := by
  induction m with
  | zero => exact ⟨[], rfl, fun i hi => by omega⟩
  | succ m ih =>
    obtain ⟨A, hl, hp⟩ := ih (fun i hi => h i (by omega))
    obtain ⟨x, hx⟩ := h m (by omega)
    refine ⟨A ++ [x], by simp [hl], fun i hi => ?_⟩
    rw [List.getD_eq_getElem?_getD]
    by_cases e : i < m
    · rw [List.getElem?_append_left (by omega), ← List.getD_eq_getElem?_getD]; exact hp i e
    · have : i = m := by omega
      subst this
      rw [List.getElem?_append_right (by omega), hl]; simpa using hx
theorem weightsAll_mem (e : TypeId) : ∀ (l : List (DataW H)), inReach (DataW.weightsAll Tryd.prog e l) → ∀ d ∈ l, inReach (d.weights Tryd.prog e)
  | [], _ => fun d hd => by cases hd
  | x :: l, h => by
    have h1 : inReach (x.weights Tryd.prog e ++ DataW.weightsAll Tryd.prog e l) := h
    obtain ⟨h2, h3⟩ := inReach_append.1 h1
    intro d hd
    rcases List.mem_cons.1 hd with rfl | hd
    · exact h2
    · exact weightsAll_mem e l h3 d hd
theorem sts_open {base : Nat} {v : Value} {d : DataW H} {p : List MemPlace} (hv : Value.okWide Tryd.prog W .any base 31 v) (h : DataW.Trod enc Tryd.prog W 0 (fun _ => true) true 31 v d p) :
    ∃ (a : Option Addr) (ss : List ByteArray) (cap : Nat), v = .slice a ss.length cap ∧ ss.length ≤ maxLen ∧ StrsAt W a ss := by
  obtain ⟨a0, len, cap, rfl⟩ := okWide_slice Tryd.underlying31 hv
  obtain ⟨fuel, hf⟩ := h
  obtain ⟨a, ss, c, e, h1, h2, _⟩ := one_strs (c := .slice a0 len cap) (by simpa [Value.cells] using hf)
  exact ⟨a, ss, c, e, h1, h2⟩
end
end Go.Proofs.YtckhdknehdjhoaaDoor
