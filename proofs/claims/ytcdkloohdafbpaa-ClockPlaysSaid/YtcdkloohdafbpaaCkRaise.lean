/-
  THE CONTRACT OF raise.
-/
import Derived.Test.YtcdkloohdafbpaaCkSet
import Derived.Deep.RegionHeld3
namespace Go.Proofs.Ytcdkloohdafbpaa
open Go.RowKit
theorem keep_cell {w w' : World} {p : Addr} {v : Value} (h : Below w.heap.size w w') (hc : w.cell? p = some v) : w'.cell? p = some v :=
  (h.cell (block_lt' hc)).trans hc
theorem keep_alloc {W : World} {o : Obj} {p : Addr} {v : Value} (hc : W.cell? p = some v) : (W.alloc o).cell? p = some v := by
  rw [World.cell?_alloc_lt W o p (block_lt' hc)]; exact hc
theorem keep_drew {W : World} {p : Addr} {v : Value} (hc : W.cell? p = some v) : W.drew.cell? p = some v := hc
theorem bw_alloc {w X : World} {o : Obj} (h : Below w.heap.size w X) : Below w.heap.size w (X.alloc o) := h.alloc h.size o
theorem bw_drew {w X : World} (h : Below w.heap.size w X) : Below w.heap.size w X.drew := h.drew
theorem bw_call {w X Y : World} (hb : Below X.heap.size X Y) (h : Below w.heap.size w X) : Below w.heap.size w Y := h.trans (hb.mono h.size)
section
variable {W : World} {C S P T n k : Nat} {ss : List Int} {fp ft : Int → Int} {top : Int}
set_option maxHeartbeats 2000000 in
theorem raise_any (h : ClockAt W C S P T n k ss fp ft top) (z : Int) (hz : Okay z) (i : Nat) (hi : i < n) :
    Calls Try.prog 31 #[.pointer (some ⟨C, 0, none⟩), .int .i64 z, .int .i64 i] W fun e w' => e = .returned (.tuple #[]) ∧ ClockAt w' C S P T n k (ss.set i (max (ss.getD i 0) z)) fp ft top ∧ Fr C S P T W w' := by
  obtain ⟨n0, n8⟩ := h.n1
  have h1 := h.c1
  have h2 := h.sc i hi
  have h3 := h.sf i
  have h0 : (0 : Int) ≤ i := by omega
  have h9 : (i : Int) < n := by omega
  obtain ⟨lC, lS, _, _⟩ := h.lts
  have HC : Hid (∀ W', Below W.heap.size W W' → W'.cell? ⟨C, 1, none⟩ = some (.slice (some ⟨S, 0, none⟩) n n) ∧ W'.cell? ⟨S, i, none⟩ = some (.int .i64 (ss.getD i 0)) ∧ W'.frozen? ⟨S, i, none⟩ = false ∧ ClockAt (W'.setCell ⟨S, i, none⟩ (.int .i64 (max (ss.getD i 0) z))) C S P T n k (ss.set i (max (ss.getD i 0) z)) fp ft top ∧ Fr C S P T W (W'.setCell ⟨S, i, none⟩ (.int .i64 (max (ss.getD i 0) z)))) := fun W' hW =>
    ⟨(h.below hW).c1, (h.below hW).sc i hi, (h.below hW).sf i, (h.below hW).setStream i hi _ (max_ok (h.os i) hz), (Fr.of_below hW).trans (Fr.of_grown (setCell_grown _ _ _ _) (by simp))⟩
  generalize ss.set i (max (ss.getD i 0) z) = ss' at HC ⊢
  clear h
  have KM := Lib.hid (most1h (ss.getD i 0) z W)
  generalize ss.getD i 0 = old at *
  generalize max old z = m at *
  clear hz hi n0
  go_enter Try.func31, Try.ntmps31
  have hbr := Below.refl W.heap.size W
  go_wp2
  go_region_with (go_at_call 28; refine (KM.out _ hbr.drew).mono ?_; rintro e w1 ⟨rfl, hb⟩; obtain ⟨c1, c2, c3, c4, c5⟩ := HC.out _ hb; have c4 := Lib.hid c4; have c5 := Lib.hid c5)
  all_goals go_wp2
  all_goals go_end0
  all_goals exact ⟨rfl, c4.out, c5.out⟩
end
end Go.Proofs.Ytcdkloohdafbpaa
