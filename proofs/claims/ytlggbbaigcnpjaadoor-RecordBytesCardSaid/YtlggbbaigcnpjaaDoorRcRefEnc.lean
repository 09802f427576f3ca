/-
  THE CONTRACT OF quadrigaref04.Encode, of a right record.
-/
import Derived.Test.YtlggbbaigcnpjaaDoorRcRefVal
import Derived.Deep.Cut
import Derived.Deep.CutRange
import Derived.Deep.DeepCutAuto
namespace Go.Proofs.YtlggbbaigcnpjaaDoor
open Go.RowKit

theorem lay_num (K : Nat) (x : Int) (h1 : 1 ≤ K) (h8 : K ≤ 8) (hf : fitsN K x = true) : (⟨(be K x.toNat).toArray⟩ : ByteArray) = num K x := by
  apply ba_ext
  rw [num_list h1 h8 hf]
theorem conv_num {x : Int} (h0 : 0 ≤ x) (h : x ≤ 255) (W : World) (g : Nat) (hc : W.cell? ⟨g, 0, none⟩ = some (.int .u8 x)) :
    (convert 53 9 (.slice (some ⟨g, 0, none⟩) 1 1)).run Tryd.prog W = .ok (.string (num 1 x)) W := by
  obtain ⟨c, e1, e2⟩ := num1_byte h0 h
  rw [e1]
  exact conv_one W g c (by rw [hc]; congr 2; omega)
theorem conv_two {x y : Int} (h0 : 0 ≤ x) (h : x ≤ 255) (k0 : 0 ≤ y) (k : y ≤ 255) (W : World) (g : Nat) (hc : W.cell? ⟨g, 0, none⟩ = some (.int .u8 x)) (hd : W.cell? ⟨g, 1, none⟩ = some (.int .u8 y)) :
    (convert 53 9 (.slice (some ⟨g, 0, none⟩) 2 2)).run Tryd.prog W = .ok (.string (num 1 x ++ num 1 y)) W := by
  obtain ⟨c, e1, e2⟩ := num1_byte h0 h
  obtain ⟨d, f1, f2⟩ := num1_byte k0 k
  have : num 1 x ++ num 1 y = ⟨[c, d].toArray⟩ := by rw [e1, f1]; rfl
  rw [this]
  refine run_convert_bytes_back W 53 9 5 ⟨g, 0, none⟩ 2 [c, d] Tryd.underlying53 Tryd.underlying5 Tryd.underlying9 fun j hj => ?_
  have hj : j = 0 ∨ j = 1 := by simp at hj; omega
  rcases hj with rfl | rfl
  · show W.cell? ⟨g, 0, none⟩ = _
    rw [hc]; show _ = some (Value.int .u8 (c.toNat : Int)); congr 2; omega
  · show W.cell? ⟨g, 1, none⟩ = _
    rw [hd]; show _ = some (Value.int .u8 (d.toNat : Int)); congr 2; omega
end Go.Proofs.YtlggbbaigcnpjaaDoor
