/-
  THE CONTRACT OF frame.Make.
-/
import Derived.Test.YtpfgdmjgeelobaaDoorFrOpen
import Derived.Deep.Cut
import Derived.Deep.CutRange
import Derived.Deep.DeepCutAuto
namespace Go.Proofs.YtpfgdmjgeelobaaDoor
open Go.RowKit Crc

theorem some_below {W w' : World} {B : Nat} (h : Below B W w') {p : Addr} {v : Value} (hp : p.block < B) (hc : W.cell? p = some v) : w'.cell? p = some v := (h.cell hp).trans hc
theorem block_lt {w : World} {p : Addr} {v : Value} (h : w.cell? p = some v) : p.block < w.heap.size := by
  rcases Nat.lt_or_ge p.block w.heap.size with h1 | h1
  · exact h1
  · simp [World.cell?, Array.getElem?_eq_none h1] at h
theorem keep_cell {W w' : World} (h : Below W.heap.size W w') {p : Addr} {v : Value} (hc : W.cell? p = some v) : w'.cell? p = some v := some_below h (block_lt hc) hc

theorem put1_at (K x : Int) (hK : 1 ≤ K ∧ K ≤ 8) (hx : (Lit.int .i64 x).wf = true) (g : Nat) (W : World) (hc : W.cell? ⟨g, 0, none⟩ = some (.int .i64 x)) :
    Calls Tryd.prog 27 #[.int .i64 K, .slice (some ⟨g, 0, none⟩) 1 1] W fun e w' => e = .returned (.string ⟨(putL K [x]).toArray⟩) ∧ Below W.heap.size W w' :=
  put_any K (some ⟨g, 0, none⟩) [x] 1 W (by omega) (by intro n hn; simp at hn; subst hn; exact hx) (by simp) (.inr ⟨g, 0, rfl, fun i hi => by
    match i, hi with
    | 0, _ => exact hc⟩)
theorem put2_at (K x y : Int) (hK : 1 ≤ K ∧ K ≤ 8) (hx : (Lit.int .i64 x).wf = true) (hy : (Lit.int .i64 y).wf = true) (g : Nat) (W : World) (hc : W.cell? ⟨g, 0, none⟩ = some (.int .i64 x)) (hd : W.cell? ⟨g, 1, none⟩ = some (.int .i64 y)) :
    Calls Tryd.prog 27 #[.int .i64 K, .slice (some ⟨g, 0, none⟩) 2 2] W fun e w' => e = .returned (.string ⟨(putL K [x, y]).toArray⟩) ∧ Below W.heap.size W w' :=
  put_any K (some ⟨g, 0, none⟩) [x, y] 2 W (by omega) (by intro n hn; simp at hn; rcases hn with rfl | rfl <;> assumption) (by simp) (.inr ⟨g, 0, rfl, fun i hi => by
    match i, hi with
    | 0, _ => exact hc
    | 1, _ => exact hd⟩)

theorem after_drewN {w w' : World} {o : Obj} {n : Nat} (h : Below ((w.alloc o).drewN n).heap.size ((w.alloc o).drewN n) w') : Below (w.heap.size + 1) (w.alloc o) w' :=
  after_alloc ((below_drewN (Below.refl (w.alloc o).heap.size (w.alloc o)) n).trans h)

/-- A store into the fourth of four cells. -/
theorem set_last {W w : World} {B b : Nat} {v u0 u1 u2 u3 : Value} (h : Below B W w) (hb : B ≤ b) (hc : ∀ i, w.cell? ⟨b, i, none⟩ = (#[u0, u1, u2, u3] : Array Value)[i]?) :
    ∃ w', w' = w.setCell ⟨b, 3, none⟩ v ∧ w'.cell? ⟨b, 0, none⟩ = some u0 ∧ w'.cell? ⟨b, 1, none⟩ = some u1 ∧ w'.cell? ⟨b, 2, none⟩ = some u2 ∧ w'.cell? ⟨b, 3, none⟩ = some v ∧ Below B W w' ∧ w'.heap.size = w.heap.size := by
  have hne : ∀ i j : Nat, i ≠ j → (⟨b, i, none⟩ : Addr) ≠ ⟨b, j, none⟩ := fun i j hij e => by injection e with _ e2; exact hij e2
  have c0 : w.cell? ⟨b, 0, none⟩ = some u0 := hc 0
  have c1 : w.cell? ⟨b, 1, none⟩ = some u1 := hc 1
  have c2 : w.cell? ⟨b, 2, none⟩ = some u2 := hc 2
  have c3 : w.cell? ⟨b, 3, none⟩ = some u3 := hc 3
  refine ⟨_, rfl, ?_, ?_, ?_, World.cell?_setCell_same _ _ _ c3, h.setCell hb _, by simp [World.setCell]⟩
  · rw [World.cell?_setCell_other _ _ _ _ (hne 3 0 (by decide))]; exact c0
  · rw [World.cell?_setCell_other _ _ _ _ (hne 3 1 (by decide))]; exact c1
  · rw [World.cell?_setCell_other _ _ _ _ (hne 3 2 (by decide))]; exact c2

def makeStr (e a g : Int) (d : ByteArray) : ByteArray := if frRight e a g d.size then frStr e a g d else ⟨#[]⟩

set_option maxHeartbeats 1000000 in
theorem make_no (e a g : Int) (d : ByteArray) (sa : Option Addr) (ss : List ByteArray) (cap : Nat) (w : World) (_he : (Lit.int .i64 e).wf = true) (_ha : (Lit.int .i64 a).wf = true) (_hg : (Lit.int .i64 g).wf = true)
    (_hd : d.size ≤ 100000) (hl : lens ss ≤ 100000) (hn : ss.length ≤ 1000) (hc : ss.length ≤ cap) (_hss : Short ss) (hsa : StrsAt w sa ss) (ht : Tab w) (hbig : ¬ 225 < d.size + (25 + lens ss)) (hr : frRight e a g (d ++ ⟨(joined ss).toArray⟩ : ByteArray).size = false) :
    Calls Tryd.prog 11 #[.agg #[.int .i64 e, .int .i64 a, .int .i64 g, .string d], .slice sa ss.length cap] w fun x w' =>
      x = .returned (.string (makeStr e a g (d ++ ⟨(joined ss).toArray⟩))) ∧ Below w.heap.size w w' := by
  have HT := Lib.hid ht; clear ht
  have HA := Lib.hid hsa; clear hsa
  have HSZ := Lib.hid (fun W hW => (size_any sa ss cap W (by omega) (by omega) (HA.out.below hW)).mono fun _ _ h => (⟨h.1, h.2.symm⟩ : _ ∧ _))
  have hjs : (⟨(joined ss).toArray⟩ : ByteArray).size = lens ss := by show (joined ss).toArray.size = _; rw [List.size_toArray]; rfl
  have hDs : (d ++ ⟨(joined ss).toArray⟩ : ByteArray).size = d.size + lens ss := by rw [ByteArray.size_append, hjs]
  have HJ := Lib.hid (fun W hW => join_any sa ss cap W (HA.out.below hW) hc (by omega) (by show lens ss ≤ _; omega))
  have HR := Lib.hid (fun W => right_any e a g (d ++ ⟨(joined ss).toArray⟩) W (by omega))
  generalize hj : (⟨(joined ss).toArray⟩ : ByteArray) = j at *
  generalize lens ss = m at *
  have hb' : ¬ (225 : Int) < (d.size : Int) + ((25 + m : Nat) : Int) := by omega
  have hM : makeStr e a g (d ++ j) = ⟨#[]⟩ := by unfold makeStr; rw [if_neg (by rw [hr]; simp)]
  rw [hM]
  rw [hr] at HR
  go_enter Tryd.func11, Tryd.ntmps11
  go_wp2_with fail
  go_quiet ((go_at_call 12; exact Calls.quiet_of_same (HSZ.out _ (below_drewN ((Below.refl _ _).alloc (Nat.le_refl _) _) _))))
  go_wp2_with fail
  go_cut [] (fun wx => wx.cell? ⟨w.heap.size, 0, none⟩ = some (.int .i64 e) ∧ wx.cell? ⟨w.heap.size, 1, none⟩ = some (.int .i64 a) ∧ wx.cell? ⟨w.heap.size, 2, none⟩ = some (.int .i64 g) ∧ wx.cell? ⟨w.heap.size, 3, none⟩ = some (.string (d ++ j)) ∧ Below w.heap.size w wx)
  case first =>
    go_region_with (go_at_call 24; refine (HJ.out _ ?_).mono ?_; exact below_drewN ((Below.refl _ _).alloc (Nat.le_refl _) _) _; rintro x w5 ⟨rfl, hb5⟩; have hb5 := after_drewN hb5; have hc5 := block_cells hb5 rfl; have k0 := hc5.1 0; have k1 := hc5.1 1; have k2 := hc5.1 2; have k3 := hc5.1 3; have k4 := hc5.2 3; simp only [List.getElem?_toArray, List.getElem?_cons_zero, List.getElem?_cons_succ] at k0 k1 k2 k3)
    all_goals go_wp2_with fail
    all_goals go_meet
    all_goals
      obtain ⟨W', hW', c0, c1, c2, c3, hbW, _⟩ := set_last (v := .string (d ++ j)) (((Below.refl _ w).alloc (Nat.le_refl _) _).trans (hb5.mono (Nat.le_succ _))) (Nat.le_refl _) hc5.1
      rw [← hW']
      exact ⟨c0, c1, c2, c3, hbW⟩
  case rest =>
    obtain ⟨c0, c1, c2, c3, hbc⟩ := hcut
    go_wp2_with fail
    refine (HR.out _).mono ?_
    rintro x w6 ⟨rfl, hb6⟩
    have hb7 := hbc.trans (hb6.mono hbc.size)
    go_wp2
    go_ret
    exact ⟨rfl, hb7⟩
set_option maxHeartbeats 1000000 in
theorem make_big (e a g : Int) (d : ByteArray) (sa : Option Addr) (ss : List ByteArray) (cap : Nat) (w : World) (_he : (Lit.int .i64 e).wf = true) (_ha : (Lit.int .i64 a).wf = true) (_hg : (Lit.int .i64 g).wf = true)
    (hd : d.size ≤ 100000) (hl : lens ss ≤ 100000) (hn : ss.length ≤ 1000) (_hc : ss.length ≤ cap) (_hss : Short ss) (hsa : StrsAt w sa ss) (ht : Tab w) (hbig : 225 < d.size + (25 + lens ss)) :
    Calls Tryd.prog 11 #[.agg #[.int .i64 e, .int .i64 a, .int .i64 g, .string d], .slice sa ss.length cap] w fun x w' =>
      x = .returned (.string (makeStr e a g (d ++ ⟨(joined ss).toArray⟩))) ∧ Below w.heap.size w w' := by
  have HT := Lib.hid ht; clear ht
  have HA := Lib.hid hsa; clear hsa
  have HSZ := Lib.hid (fun W hW => (size_any sa ss cap W (by omega) (by omega) (HA.out.below hW)).mono fun _ _ h => (⟨h.1, h.2.symm⟩ : _ ∧ _))
  have hjs : (⟨(joined ss).toArray⟩ : ByteArray).size = lens ss := by show (joined ss).toArray.size = _; rw [List.size_toArray]; rfl
  have hDs : (d ++ ⟨(joined ss).toArray⟩ : ByteArray).size = d.size + lens ss := by rw [ByteArray.size_append, hjs]
  have hM : makeStr e a g (d ++ ⟨(joined ss).toArray⟩) = ⟨#[]⟩ := by
    unfold makeStr
    rw [if_neg]
    intro h
    have := (frRight_parts h).2.2.2
    omega
  rw [hM]
  generalize lens ss = m at *
  have hb' : (225 : Int) < (d.size : Int) + ((25 + m : Nat) : Int) := by omega
  go_enter Tryd.func11, Tryd.ntmps11
  go_wp2_with fail
  go_quiet ((go_at_call 12; exact Calls.quiet_of_same (HSZ.out _ (below_drewN ((Below.refl _ _).alloc (Nat.le_refl _) _) _))))
  go_wp2
  go_ret
  exact ⟨rfl, below_drewN ((Below.refl _ _).alloc (Nat.le_refl _) _) _⟩
end Go.Proofs.YtpfgdmjgeelobaaDoor
