/-
  THE CONTRACT OF quadrigaref04.val: a value's bytes.
-/
import Derived.Test.YtlggbbaigcnpjaaDoorRcDecLaw
import Derived.Test.YtlggbbaigcnpjaaDoorRcRefCut
namespace Go.Proofs.YtlggbbaigcnpjaaDoor
open Go.RowKit

/-- A text of one byte, of a row of one byte. -/
theorem conv_one (W : World) (g : Nat) (c : UInt8) (h : W.cell? ⟨g, 0, none⟩ = some (.int .u8 (c.toNat : Int))) :
    (convert 53 9 (.slice (some ⟨g, 0, none⟩) 1 1)).run Tryd.prog W = .ok (.string ⟨#[c]⟩) W :=
  run_convert_bytes_back W 53 9 5 ⟨g, 0, none⟩ 1 [c] Tryd.underlying53 Tryd.underlying5 Tryd.underlying9 fun j hj => by
    have : j = 0 := by simp at hj; omega
    subst this
    exact h
theorem num1_byte {x : Int} (h0 : 0 ≤ x) (h : x ≤ 255) : ∃ c : UInt8, num 1 x = ⟨#[c]⟩ ∧ x % 256 = (c.toNat : Int) := by
  refine ⟨UInt8.ofNat x.toNat, ?_, ?_⟩
  · apply ba_ext
    rw [num_list (by omega) (by omega) (fitsN_of h0 (by omega))]
    unfold be
    simp
    rw [Nat.mod_eq_of_lt (by omega)]
  · rw [UInt8.toNat_ofNat', Nat.mod_eq_of_lt (by omega)]; omega
set_option maxRecDepth 100000 in
set_option maxHeartbeats 1000000 in
theorem refVal_any (h : Bool) (s : ByteArray) (w : World) (hs : s.size ≤ 100) :
    Calls Tryd.prog 29 #[.agg #[.bool h, .string s]] w fun e w' => e = .returned (.string (valS h s)) ∧ Below w.heap.size w w' := by
  cases h
  · have HV : Hid (valS false s = ⟨#[0]⟩) := by
      show num 1 0 = _
      apply ba_ext
      rw [num_list (by omega) (by omega) (by decide)]
      rfl
    go_enter Tryd.func29, Tryd.ntmps29
    go_wp2
    go_ret
    exact ⟨by rw [HV.out]; rfl, bw_alloc (Below.refl _ _)⟩
  · obtain ⟨c, hc, hx⟩ := num1_byte (x := (s.size : Int) + 1) (by omega) (by omega)
    have HV : Hid (valS true s = ⟨#[c]⟩ ++ s) := by
      show num 1 ((s.size : Int) + 1) ++ s = _
      rw [hc]
    have hwr : IntKind.i64.wrap ((s.size : Int) + 1) = (s.size : Int) + 1 := by rw [IntKind.wrap_i64]; omega
    have hz : ¬ 9223372036854775807 < (⟨#[c]⟩ : ByteArray).size + s.size := by show ¬ 9223372036854775807 < 1 + s.size; omega
    generalize hC : (⟨#[c]⟩ : ByteArray) = C at HV hz
    have hq : (c.toNat : Int) = (s.size : Int) + 1 := by omega
    have kc : ∀ o, (convert 53 9 (.slice (some ⟨w.heap.size + 1, 0, none⟩) 1 1)).run Tryd.prog ((w.alloc o).alloc (.cells #[.int .u8 ((s.size : Int) + 1)] 5)) = .ok (.string C) ((w.alloc o).alloc (.cells #[.int .u8 ((s.size : Int) + 1)] 5)) := fun o => by
      rw [← hC, ← hq]
      exact conv_one _ _ c (new_cell (by rw [World.size_alloc]) rfl)
    clear hC hc hq hx
    go_enter Tryd.func29, Tryd.ntmps29
    go_wp2
    go_ret
    exact ⟨by rw [HV.out]; rfl, bw_alloc (bw_alloc (Below.refl _ _))⟩
end Go.Proofs.YtlggbbaigcnpjaaDoor
