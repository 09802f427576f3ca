/-
  THE CONTRACTS OF a clock's Sees, Turn, Drop, New.
-/
import Derived.Test.YtcdkloohdafbpaaCkSet
import Derived.Deep.RegionHeld3
namespace Go.Proofs.Ytcdkloohdafbpaa
open Go.RowKit
section
variable {W : World} {C S P T n k : Nat} {ss : List Int} {fp ft : Int → Int} {top : Int}
theorem turn_no (h : ClockAt W C S P T n k ss fp ft top) (p z : Int) (hno : ¬ (0 ≤ p ∧ Okay z)) :
    Calls Try.prog 20 #[.pointer (some ⟨C, 0, none⟩), .int .i64 p, .int .i64 z] W fun e w' => e = .returned (.tuple #[]) ∧ W = w' := by
  have KM := Lib.hid (made_any h)
  have KY := Lib.hid (may_any z W)
  clear h
  by_cases hp : p < 0
  · clear hno
    go_enter Try.func20, Try.ntmps20
    go_wp2_with fail
    refine KM.out.mono ?_
    rintro e w1 ⟨rfl, rfl⟩
    go_wp2
    refine bodyPost_ret (results_none rfl _ _ _) rfl ?_
    exact ⟨rfl, rfl⟩
  · have hz : mayB z = false := by
      cases hb : mayB z with
      | true => exact absurd ⟨by omega, mayB_iff.1 hb⟩ hno
      | false => rfl
    rw [hz] at KY
    clear hno hz
    go_enter Try.func20, Try.ntmps20
    go_wp2_with fail
    refine KM.out.mono ?_
    rintro e w1 ⟨rfl, rfl⟩
    go_wp2_with fail
    refine KY.out.mono ?_
    rintro e w1 ⟨rfl, rfl⟩
    go_wp2
    refine bodyPost_ret (results_none rfl _ _ _) rfl ?_
    exact ⟨rfl, rfl⟩
theorem turn_yes (h : ClockAt W C S P T n k ss fp ft top) (p z : Int) (hp : (Lit.int .i64 p).wf = true) (h0 : 0 ≤ p) (hz : Okay z) (hk : k < maxLen) :
    Calls Try.prog 20 #[.pointer (some ⟨C, 0, none⟩), .int .i64 p, .int .i64 z] W fun e w' => e = .returned (.tuple #[]) ∧ ClockAt w' C S P T n (k + 1) ss (updI fp p z) ft (max top z) ∧ Fr C S P T W w' := by
  have KM := Lib.hid (made_any h)
  have KY := Lib.hid (may_any z W)
  rw [mayB_iff.2 hz] at KY
  have KS := Lib.hid (setPages_any h p z hp hz hk)
  have c2 := h.c2
  have HZ := Lib.hid hz; clear hz h
  go_enter Try.func20, Try.ntmps20
  go_wp2_with fail
  refine KM.out.mono ?_
  rintro e w1 ⟨rfl, rfl⟩
  go_wp2_with fail
  refine KY.out.mono ?_
  rintro e w1 ⟨rfl, rfl⟩
  go_wp2_with fail
  refine KS.out.mono ?_
  rintro e w1 ⟨rfl, h6, h7⟩
  have cl := Lib.hid h6; have fr := Lib.hid h7; clear h6 h7
  go_wp2_with fail
  refine (meet_any cl.out z HZ.out).mono ?_
  rintro e w1 ⟨rfl, h6, h7⟩
  have cl1 := Lib.hid h6; have fr1 := Lib.hid (fr.out.trans h7); clear h6 h7
  go_wp2
  go_end0
  exact ⟨rfl, cl1.out, fr1.out⟩
theorem sees_no (h : ClockAt W C S P T n k ss fp ft top) (t p : Int) (hno : t < 0 ∨ p < 0) :
    Calls Try.prog 16 #[.pointer (some ⟨C, 0, none⟩), .int .i64 t, .int .i64 p] W fun e w' => e = .returned (.tuple #[]) ∧ W = w' := by
  have KM := Lib.hid (made_any h)
  clear h
  by_cases ht : t < 0
  · clear hno
    go_enter Try.func16, Try.ntmps16
    go_wp2_with fail
    refine KM.out.mono ?_
    rintro e w1 ⟨rfl, rfl⟩
    go_wp2
    refine bodyPost_ret (results_none rfl _ _ _) rfl ?_
    exact ⟨rfl, rfl⟩
  · have hp : p < 0 := by omega
    clear hno
    go_enter Try.func16, Try.ntmps16
    go_wp2_with fail
    refine KM.out.mono ?_
    rintro e w1 ⟨rfl, rfl⟩
    go_wp2
    refine bodyPost_ret (results_none rfl _ _ _) rfl ?_
    exact ⟨rfl, rfl⟩
theorem keep_cell {w w' : World} {p : Addr} {v : Value} (h : Below w.heap.size w w') (hc : w.cell? p = some v) : w'.cell? p = some v :=
  (h.cell (block_lt' hc)).trans hc
theorem keep_alloc {W : World} {o : Obj} {p : Addr} {v : Value} (hc : W.cell? p = some v) : (W.alloc o).cell? p = some v := by
  rw [World.cell?_alloc_lt W o p (block_lt' hc)]; exact hc
theorem keep_drew {W : World} {p : Addr} {v : Value} (hc : W.cell? p = some v) : W.drew.cell? p = some v := hc
set_option maxHeartbeats 2000000 in
theorem sees_yes (h : ClockAt W C S P T n k ss fp ft top) (t p : Int) (ht : (Lit.int .i64 t).wf = true) (hp : (Lit.int .i64 p).wf = true) (t0 : 0 ≤ t) (p0 : 0 ≤ p) (hk : k < maxLen) :
    Calls Try.prog 16 #[.pointer (some ⟨C, 0, none⟩), .int .i64 t, .int .i64 p] W fun e w' => e = .returned (.tuple #[]) ∧ ClockAt w' C S P T n (k + 1) ss fp (updI ft t (max (ft t) (fp p))) top ∧ Fr C S P T W w' := by
  have KM := Lib.hid (made_any h)
  have KP := Lib.hid (fun W' (hW : Below W.heap.size W W') => page_any (h.below hW) p hp)
  have KT := Lib.hid (fun W' (hW : Below W.heap.size W W') => txn_any (h.below hW) t ht)
  have KX := Lib.hid (most1h (ft t) (fp p) W)
  have KS := Lib.hid (fun W' (hW : Below W.heap.size W W') => (setTxns_any (h.below hW) t (max (ft t) (fp p)) ht (max_ok (h.oy t) (h.op p)) hk).mono fun e w' hh => (⟨hh.1, hh.2.1.c3, Lib.hid hh.2.1, Lib.hid ((Fr.of_below hW).trans hh.2.2)⟩ : e = .returned (.tuple #[]) ∧ w'.cell? ⟨C, 3, none⟩ = some (.map (some T)) ∧ Hid (ClockAt w' C S P T n (k + 1) ss fp (updI ft t (max (ft t) (fp p))) top) ∧ Hid (Fr C S P T W w')))
  have c3 := h.c3
  have hbr := Below.refl W.heap.size W
  clear h
  generalize updI ft t (max (ft t) (fp p)) = ft' at KS ⊢
  generalize max (ft t) (fp p) = m at KX KS
  generalize ft t = a at KT KX
  generalize fp p = b at KP KX
  go_enter Try.func16, Try.ntmps16
  go_wp2_with fail
  refine KM.out.mono ?_
  rintro e w1 ⟨rfl, rfl⟩
  go_wp2_with fail
  go_region_held3 (fun w' => w'.cell? ⟨C, 3, none⟩ = some (.map (some T)))
    ((repeat (first | with_reducible assumption | with_reducible refine keep_alloc ?_ | with_reducible refine keep_drew ?_ | with_reducible refine keep_cell (by assumption) ?_)))
    (first
      | (go_at_call 14; refine (KT.out _ hbr.drew).mono ?_; rintro e w1 ⟨rfl, rfl⟩)
      | (go_at_call 12; refine (KP.out _ hbr.drew).mono ?_; rintro e w1 ⟨rfl, rfl⟩)
      | (go_at_call 28; refine (KX.out _ hbr.drew).mono ?_; rintro e w1 ⟨rfl, hb⟩; have hb3 := hb.cell (block_lt' c3); rw [c3] at hb3)
      | (go_at_call 27; refine (KS.out _ hb).mono ?_; rintro e w2 ⟨rfl, hc2, cl, fr⟩))
  all_goals go_wp2
  all_goals go_end0
  all_goals exact ⟨rfl, cl.out, fr.out⟩
end
end Go.Proofs.Ytcdkloohdafbpaa
