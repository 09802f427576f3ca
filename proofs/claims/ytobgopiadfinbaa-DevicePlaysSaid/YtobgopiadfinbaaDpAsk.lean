/-
  WHAT LAW 05 ASKS A DEVICE: On, Uses, Sectors, Loose, Lasts.
-/
import Derived.Test.YtobgopiadfinbaaDpWrite
import Derived.Test.YtobgopiadfinbaaDvLoose
namespace Go.Proofs.Ytobgopiadfinbaa
open Go.RowKit Go.Maps Go.Sort Go.Shelf
section
variable {W : World} {D P L M n c : Nat} {p : Pn} {las : List (List UInt8)} {f : Int → Option (List UInt8)} {lt nt : Nat → ByteArray} {ls : List Int}
theorem on_q (h : DQ W D P L M n c p las f) : Calls Try.prog 25 #[.pointer (some ⟨D, 0, none⟩)] W fun e w' => e = .returned (.bool (!p.off)) ∧ W = w' := by
  obtain ⟨⟨k, _, h1⟩, _⟩ := h
  exact devOn h1
theorem uses_q (h : DQ W D P L M n c p las f) : Calls Try.prog 17 #[.pointer (some ⟨D, 0, none⟩)] W fun e w' => e = .returned (.int .i64 p.u) ∧ W = w' := by
  obtain ⟨⟨k, _, h1⟩, _⟩ := h
  exact uses_any h1
theorem sectors_q (h : DQ W D P L M n c p las f) : Calls Try.prog 26 #[.pointer (some ⟨D, 0, none⟩)] W fun e w' => e = .returned (.int .i64 (n : Int)) ∧ W = w' := by
  obtain ⟨⟨k, _, h1⟩, _⟩ := h
  exact sectors_any h1
theorem lasts_q (h : DQ W D P L M n c p las f) (j : Nat) (hj : j < n) : Calls Try.prog 29 #[.pointer (some ⟨D, 0, none⟩), .int .i64 (j : Int)] W fun e w' => e = .returned (.string (txt (las.getD j blank64))) ∧ W = w' := by
  obtain ⟨⟨k, _, h1⟩, _⟩ := h
  exact lasts_any h1 j hj
theorem loose_q (h : DQ W D P L M n c p las f) (hR : CR n las f lt nt ls) : Calls Try.prog 28 #[.pointer (some ⟨D, 0, none⟩)] W fun e w' => ∃ a c, e = .returned (.slice a ls.length c) ∧ IntsAt w' a ls ∧ Below W.heap.size W w' := by
  obtain ⟨⟨k, _, h1⟩, _, _, _, h5⟩ := h
  obtain ⟨D0, hown, hhas, _⟩ := h1.mp
  have hnd : ls.Nodup := hR.up.imp (fun hab e => by omega)
  have hm : ∀ x, x ∈ ls ↔ has D0 (.int .i64 x) = true := fun x => by
    rw [hR.mem x, hhas x]
    cases f x <;> simp
  have hp : ls.Perm (intKeys D0) := CollectedI.perm (D0 := D0) (left := fun _ => false) ⟨hnd, fun x => by rw [hm x]; simp⟩ hown keyLaw Try.underlying3 (fun _ => rfl)
  have hsz : Maps.size D0 ≤ 10000 := by
    obtain ⟨es, rfl, _⟩ := hown.keysOf
    have h1 := hp.length_eq
    have h2 : (intKeys (DataW.map es)).length = es.length := by simp [intKeys]
    rw [size_eq]
    have := hR.len
    omega
  refine (loose_map h1 D0 hown hsz).mono ?_
  rintro x w' ⟨v, ss, rfl, hss, hrow, _, hb⟩
  have he : ss.mergeSort (fun x y => decide (x ≤ y)) = ls := by
    have h1 : ss.mergeSort leI = ls.mergeSort leI := mergeSort_of_perm_i (hss.trans hp.symm)
    have h2 : ls.mergeSort leI = ls := List.mergeSort_of_pairwise (hR.up.imp (fun {a b} hab => by simp only [leI, decide_eq_true_eq]; omega))
    exact h1.trans h2
  have hl : ss.length = ls.length := (hss.trans hp.symm).length_eq
  rw [he, hl] at hrow
  obtain ⟨a, c, rfl, h1, h2⟩ := row_form hrow
  exact ⟨a, c, rfl, h1, hb⟩
end
end Go.Proofs.Ytobgopiadfinbaa
