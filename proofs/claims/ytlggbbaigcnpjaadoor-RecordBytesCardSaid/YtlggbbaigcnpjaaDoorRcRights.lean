/-
  CONTRACTS THAT quadrigalaw04.RecordRights ASKS FOR: two records, one value, Has.
-/
import Derived.Test.YtlggbbaigcnpjaaDoorRcGreat
import Derived.Test.YtlggbbaigcnpjaaDoorRcRefRight
namespace Go.Proofs.YtlggbbaigcnpjaaDoor
open Go.RowKit

set_option maxHeartbeats 1000000 in
theorem right_two (ak ag ax ap aq au : Int) (akey asb asa : ByteArray) (ahb aha : Bool) (bk bg bt bp bq bu : Int) (bkey bsb bsa : ByteArray) (bhb bha : Bool) (G : Nat) (W : World) (h : W.cell? ⟨G, 0, none⟩ = some (.int .i64 ak) ∧ W.cell? ⟨G, 1, none⟩ = some (.int .i64 ag) ∧ W.cell? ⟨G, 2, none⟩ = some (.int .i64 ax) ∧ W.cell? ⟨G, 3, none⟩ = some (.int .i64 ap) ∧ W.cell? ⟨G, 4, none⟩ = some (.int .i64 aq) ∧ W.cell? ⟨G, 5, none⟩ = some (.string akey) ∧ W.cell? ⟨G, 6, none⟩ = some (.bool ahb) ∧ W.cell? ⟨G, 7, none⟩ = some (.string asb) ∧ W.cell? ⟨G, 8, none⟩ = some (.bool aha) ∧ W.cell? ⟨G, 9, none⟩ = some (.string asa) ∧ W.cell? ⟨G, 10, none⟩ = some (.int .i64 au) ∧ W.cell? ⟨G, 11, none⟩ = some (.int .i64 bk) ∧ W.cell? ⟨G, 12, none⟩ = some (.int .i64 bg) ∧ W.cell? ⟨G, 13, none⟩ = some (.int .i64 bt) ∧ W.cell? ⟨G, 14, none⟩ = some (.int .i64 bp) ∧ W.cell? ⟨G, 15, none⟩ = some (.int .i64 bq) ∧ W.cell? ⟨G, 16, none⟩ = some (.string bkey) ∧ W.cell? ⟨G, 17, none⟩ = some (.bool bhb) ∧ W.cell? ⟨G, 18, none⟩ = some (.string bsb) ∧ W.cell? ⟨G, 19, none⟩ = some (.bool bha) ∧ W.cell? ⟨G, 20, none⟩ = some (.string bsa) ∧ W.cell? ⟨G, 21, none⟩ = some (.int .i64 bu)) :
    Calls Tryd.prog 14 #[.slice (some ⟨G, 0, none⟩) 2 2] W fun e w' => e = .returned (.bool (rcOk ak ag ax ap aq akey ahb asb aha asa au && rcOk bk bg bt bp bq bkey bhb bsb bha bsa bu)) ∧ Below W.heap.size W w' := by
  obtain ⟨c0, c1, c2, c3, c4, c5, c6, c7, c8, c9, c10, c11, c12, c13, c14, c15, c16, c17, c18, c19, c20, c21⟩ := h
  refine (right_any (some ⟨G, 0, none⟩) [⟨ak, ag, ax, ap, aq, akey, ahb, asb, aha, asa, au⟩, ⟨bk, bg, bt, bp, bq, bkey, bhb, bsb, bha, bsa, bu⟩] 2 W (by simp) (.inr ⟨G, 0, rfl, fun i hi => by
    match i, hi with
    | 0, _ => exact ⟨c0, c1, c2, c3, c4, c5, c6, c7, c8, c9, c10⟩
    | 1, _ => exact ⟨c11, c12, c13, c14, c15, c16, c17, c18, c19, c20, c21⟩⟩)).mono ?_
  rintro e w' ⟨rfl, hb'⟩
  exact ⟨by simp [Rc.ok], hb'⟩
theorem right_none (cap : Nat) (W : World) : Calls Tryd.prog 14 #[.slice none 0 cap] W fun e w' => e = .returned (.bool true) ∧ Below W.heap.size W w' :=
  right_any none [] cap W (by simp) (.inl rfl)
theorem key_two (key : ByteArray) (G : Nat) (W : World) (h0 : W.cell? ⟨G, 0, none⟩ = some (.string ⟨#[97]⟩)) (h1 : W.cell? ⟨G, 1, none⟩ = some (.string key)) :
    Calls Tryd.prog 52 #[.slice (some ⟨G, 0, none⟩) 2 2] W fun e w' => e = .returned (.bool (kyOk key)) ∧ Below W.heap.size W w' := by
  refine (key_any (some ⟨G, 0, none⟩) [⟨#[97]⟩, key] 2 W (by simp) (.inr ⟨G, 0, rfl, fun i hi => by
    match i, hi with
    | 0, _ => exact h0
    | 1, _ => exact h1⟩)).mono ?_
  rintro e w' ⟨rfl, hb'⟩
  have h97 : kyOk ⟨#[97]⟩ = true := by decide +kernel
  exact ⟨by simp [h97], hb'⟩
theorem value_one (vh : Bool) (vs : ByteArray) (G : Nat) (W : World) (h0 : W.cell? ⟨G, 0, none⟩ = some (.bool vh)) (h1 : W.cell? ⟨G, 1, none⟩ = some (.string vs)) :
    Calls Tryd.prog 53 #[.slice (some ⟨G, 0, none⟩) 1 1] W fun e w' => e = .returned (.bool (vlOk vh vs)) ∧ Below W.heap.size W w' := by
  refine (value_any (some ⟨G, 0, none⟩) [(vh, vs)] 1 W (by simp) (.inr ⟨G, 0, rfl, fun i hi => by
    match i, hi with
    | 0, _ => exact ⟨h0, h1⟩⟩)).mono ?_
  rintro e w' ⟨rfl, hb'⟩
  exact ⟨by simp [vOk], hb'⟩
theorem has_any (s : ByteArray) (w : World) : Calls Tryd.prog 46 #[.string s] w fun e w' => e = .returned (.agg #[.bool true, .string s]) ∧ Below w.heap.size w w' := by
  go_enter Tryd.func46, Tryd.ntmps46
  go_wp2
  have c0 : (w.alloc (.cells #[.bool true, .string s] 23)).cell? ⟨w.heap.size, 0, none⟩ = some (.bool true) := new_cell rfl rfl
  have c1 : (w.alloc (.cells #[.bool true, .string s] 23)).cell? ⟨w.heap.size, 1, none⟩ = some (.string s) := new_cell rfl rfl
  refine bodyPost_ret (v := .agg #[.bool true, .string s]) ?_ rfl ⟨rfl, bw_alloc (Below.refl _ _)⟩
  simp [results, Tryd.results46, go_sem, c0, c1]
end Go.Proofs.YtlggbbaigcnpjaaDoor
