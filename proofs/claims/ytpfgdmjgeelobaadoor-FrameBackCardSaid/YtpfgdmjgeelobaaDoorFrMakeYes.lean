/-
  THE CONTRACT OF frame.Make, where the frame may be.
-/
import Derived.Test.YtpfgdmjgeelobaaDoorFrMake
namespace Go.Proofs.YtpfgdmjgeelobaaDoor
open Go.RowKit Crc

theorem keep_alloc {W : World} {o : Obj} {p : Addr} {v : Value} (hc : W.cell? p = some v) : (W.alloc o).cell? p = some v := by
  rw [World.cell?_alloc_lt W o p (block_lt hc)]; exact hc
theorem keep_drew {W : World} {p : Addr} {v : Value} (hc : W.cell? p = some v) : W.drew.cell? p = some v := hc
theorem new_cell {W : World} {cs : Array Value} {T : TypeId} {g i : Nat} {v : Value} (hg : g = W.heap.size) (hv : cs[i]? = some v) : (W.alloc (.cells cs T)).cell? ⟨g, i, none⟩ = some v := by
  rw [World.cell?_alloc_at (hn := hg)]; exact hv
theorem bw_alloc {w X : World} {o : Obj} (h : Below w.heap.size w X) : Below w.heap.size w (X.alloc o) := h.alloc h.size o
theorem bw_drew {w X : World} (h : Below w.heap.size w X) : Below w.heap.size w X.drew := h.drew
theorem bw_call {w X Y : World} (hb : Below X.heap.size X Y) (h : Below w.heap.size w X) : Below w.heap.size w Y := h.trans (hb.mono h.size)

theorem putL_fits1 (k : Nat) (x : Int) (h1 : 1 ≤ k) (h8 : k ≤ 8) (h0 : 0 ≤ x) (h : x.toNat < 256 ^ k) : putL (k : Int) [x] = be k x.toNat := by
  rw [putL_one k x h1 h8, if_pos (by unfold fitsN; simp [h0, h])]
theorem putL_fits2 (k : Nat) (x y : Int) (h1 : 1 ≤ k) (h8 : k ≤ 8) (h0 : 0 ≤ x) (h : x.toNat < 256 ^ k) (hy0 : 0 ≤ y) (hy : y.toNat < 256 ^ k) : putL (k : Int) [x, y] = be k x.toNat ++ be k y.toNat := by
  rw [putL_two k x y h1 h8, if_pos (by unfold fitsN; simp [h0, h, hy0, hy])]
theorem four_strs {W : World} {g : Nat} {p q r s : ByteArray} (h0 : W.cell? ⟨g, 0, none⟩ = some (.string p)) (h1 : W.cell? ⟨g, 1, none⟩ = some (.string q)) (h2 : W.cell? ⟨g, 2, none⟩ = some (.string r)) (h3 : W.cell? ⟨g, 3, none⟩ = some (.string s)) :
    StrsAt W (some ⟨g, 0, none⟩) [p, q, r, s] := .inr ⟨g, 0, rfl, fun i hi => by
  match i, hi with
  | 0, _ => exact h0
  | 1, _ => exact h1
  | 2, _ => exact h2
  | 3, _ => exact h3⟩
/-- What Seal makes of a frame's four texts. -/
theorem seal_fr (e a g : Int) (D : ByteArray) (hr : frRight e a g D.size = true) (G : Nat) (W : World) (h0 : W.cell? ⟨G, 0, none⟩ = some (.string ⟨(putL 1 [(D.size : Int)]).toArray⟩)) (h1 : W.cell? ⟨G, 1, none⟩ = some (.string ⟨(putL 4 [e]).toArray⟩))
    (h2 : W.cell? ⟨G, 2, none⟩ = some (.string ⟨(putL 8 [a, g]).toArray⟩)) (h3 : W.cell? ⟨G, 3, none⟩ = some (.string D)) (ht : Tab W) :
    Calls Tryd.prog 26 #[.slice (some ⟨G, 0, none⟩) 4 4] W fun e' w' => e' = .returned (.string (frStr e a g D)) ∧ Below W.heap.size W w' := by
  obtain ⟨he, ha, hg, hn⟩ := frRight_parts hr
  have e1 : putL 1 [(D.size : Int)] = be 1 D.size := by
    have := putL_fits1 1 (D.size : Int) (by omega) (by omega) (by omega) (by rw [Int.toNat_natCast]; omega)
    rw [Int.toNat_natCast] at this; exact this
  have e4 : putL 4 [e] = be 4 e.toNat := putL_fits1 4 e (by omega) (by omega) (by omega) (by omega)
  have e8 : putL 8 [a, g] = be 8 a.toNat ++ be 8 g.toNat := putL_fits2 8 a g (by omega) (by omega) (by omega) (by omega) (by omega) (by omega)
  have hj : joined [⟨(putL 1 [(D.size : Int)]).toArray⟩, ⟨(putL 4 [e]).toArray⟩, ⟨(putL 8 [a, g]).toArray⟩, D] = frBody e a g D := by
    rw [e1, e4, e8]
    unfold joined frBody
    simp
  have hlen := frBody_len e a g D
  have := seal_any (some ⟨G, 0, none⟩) [⟨(putL 1 [(D.size : Int)]).toArray⟩, ⟨(putL 4 [e]).toArray⟩, ⟨(putL 8 [a, g]).toArray⟩, D] 4 W (by
    intro x hx
    rw [e1, e4, e8] at hx
    simp only [List.mem_cons, List.not_mem_nil, or_false] at hx
    unfold maxLen
    rcases hx with rfl | rfl | rfl | rfl
    · show (be 1 D.size).toArray.size ≤ _; simp [be_len]
    · show (be 4 e.toNat).toArray.size ≤ _; simp [be_len]
    · show (be 8 a.toNat ++ be 8 g.toNat).toArray.size ≤ _; simp [be_len]
    · omega) (four_strs h0 h1 h2 h3) (by simp) (by simp) (by rw [hj]; omega) ht
  rw [hj] at this
  exact this

set_option maxHeartbeats 6000000 in
theorem make_yes (e a g : Int) (d : ByteArray) (sa : Option Addr) (ss : List ByteArray) (cap : Nat) (w : World) (he : (Lit.int .i64 e).wf = true) (ha : (Lit.int .i64 a).wf = true) (hg : (Lit.int .i64 g).wf = true)
    (hd : d.size ≤ 100000) (hl : lens ss ≤ 100000) (hn : ss.length ≤ 1000) (hc : ss.length ≤ cap) (_hss : Short ss) (hsa : StrsAt w sa ss) (ht : Tab w) (hbig : ¬ 225 < d.size + (25 + lens ss)) (hr : frRight e a g (d ++ ⟨(joined ss).toArray⟩ : ByteArray).size = true) :
    Calls Tryd.prog 11 #[.agg #[.int .i64 e, .int .i64 a, .int .i64 g, .string d], .slice sa ss.length cap] w fun x w' =>
      x = .returned (.string (makeStr e a g (d ++ ⟨(joined ss).toArray⟩))) ∧ Below w.heap.size w w' := by
  have HT := Lib.hid ht; clear ht
  have HA := Lib.hid hsa; clear hsa
  have HSZ := Lib.hid (fun W hW => (size_any sa ss cap W (by omega) (by omega) (HA.out.below hW)).mono fun _ _ h => (⟨h.1, h.2.symm⟩ : _ ∧ _))
  have hjs : (⟨(joined ss).toArray⟩ : ByteArray).size = lens ss := by show (joined ss).toArray.size = _; rw [List.size_toArray]; rfl
  have hDs : (d ++ ⟨(joined ss).toArray⟩ : ByteArray).size = d.size + lens ss := by rw [ByteArray.size_append, hjs]
  have HJ := Lib.hid (fun W hW => join_any sa ss cap W (HA.out.below hW) hc (by omega) (by show lens ss ≤ _; omega))
  have HR := Lib.hid (fun W => right_any e a g (d ++ ⟨(joined ss).toArray⟩) W (by omega))
  generalize hj : (⟨(joined ss).toArray⟩ : ByteArray) = j at *
  generalize lens ss = m at *
  have hb' : ¬ (225 : Int) < (d.size : Int) + ((25 + m : Nat) : Int) := by omega
  have hM : makeStr e a g (d ++ j) = frStr e a g (d ++ j) := by unfold makeStr; rw [if_pos hr]
  rw [hM]
  rw [hr] at HR
  have hjz : j.size ≤ 200 := by omega
  have hdz : d.size ≤ 200 := by omega
  obtain ⟨D, hD⟩ : ∃ D, D = d ++ j := ⟨_, rfl⟩
  have hr' : frRight e a g D.size = true := by rw [hD]; exact hr
  have hD2 : D.size ≤ 200 := (frRight_parts hr').2.2.2
  have HP1 := Lib.hid (put1_at 1 (D.size : Int) (by omega) (WalkArith.wf_i64 (by omega)))
  have HP4 := Lib.hid (put1_at 4 e (by omega) he)
  have HP8 := Lib.hid (put2_at 8 a g (by omega) ha hg)
  have HS := Lib.hid (seal_fr e a g D hr')
  rw [← hD] at HR ⊢
  have HD := Lib.hid hD
  clear hD hr hr' hM hDs hjs hj hbig he ha hg
  go_enter Tryd.func11, Tryd.ntmps11
  go_wp2_with fail
  go_quiet ((go_at_call 12; exact Calls.quiet_of_same (HSZ.out _ (below_drewN ((Below.refl _ _).alloc (Nat.le_refl _) _) _))))
  go_wp2_with fail
  go_cut [] (fun wx => wx.cell? ⟨w.heap.size, 0, none⟩ = some (.int .i64 e) ∧ wx.cell? ⟨w.heap.size, 1, none⟩ = some (.int .i64 a) ∧ wx.cell? ⟨w.heap.size, 2, none⟩ = some (.int .i64 g) ∧ wx.cell? ⟨w.heap.size, 3, none⟩ = some (.string D) ∧ Below w.heap.size w wx)
  case first =>
    go_region_with (go_at_call 24; refine (HJ.out _ ?_).mono ?_; exact below_drewN ((Below.refl _ _).alloc (Nat.le_refl _) _) _; rintro x w5 ⟨rfl, hb5⟩; have hb5 := after_drewN hb5; have hc5 := block_cells hb5 rfl; have k0 := hc5.1 0; have k1 := hc5.1 1; have k2 := hc5.1 2; have k3 := hc5.1 3; have k4 := hc5.2 3; simp only [List.getElem?_toArray, List.getElem?_cons_zero, List.getElem?_cons_succ] at k0 k1 k2 k3)
    all_goals go_wp2_with fail
    all_goals go_meet
    all_goals
      obtain ⟨W', hW', c0, c1, c2, c3, hbW, _⟩ := set_last (v := .string (d ++ j)) (((Below.refl _ w).alloc (Nat.le_refl _) _).trans (hb5.mono (Nat.le_succ _))) (Nat.le_refl _) hc5.1
      rw [← hW']
      exact ⟨c0, c1, c2, by rw [HD.out]; exact c3, hbW⟩
  case rest =>
    obtain ⟨c0, c1, c2, c3, hbc⟩ := hcut
    go_wp2_with fail
    refine (HR.out _).mono ?_
    rintro x w6 ⟨rfl, hb6⟩
    have hb7 := hbc.trans (hb6.mono hbc.size)
    have d0 := keep_cell hb6 c0
    have d1 := keep_cell hb6 c1
    have d2 := keep_cell hb6 c2
    have d3 := keep_cell hb6 c3
    clear c0 c1 c2 c3 hb6 hbc HR HJ HSZ
    go_wp2_with fail
    go_region_held3 (fun w' => w'.cell? ⟨w.heap.size, 0, none⟩ = some (.int .i64 e) ∧ w'.cell? ⟨w.heap.size, 1, none⟩ = some (.int .i64 a) ∧ w'.cell? ⟨w.heap.size, 2, none⟩ = some (.int .i64 g) ∧ w'.cell? ⟨w.heap.size, 3, none⟩ = some (.string D))
      ((refine ⟨?_, ?_, ?_, ?_⟩ <;> (repeat (first | with_reducible assumption | with_reducible refine keep_alloc ?_ | with_reducible refine keep_drew ?_ | with_reducible refine keep_cell (by assumption) ?_))))
      (first
        | (go_at_call_of 27 (Value.int .i64 1); refine (HP1.out _ _ ?_).mono ?_; (repeat (first | (with_reducible refine new_cell ?_ ?_ <;> first | rfl | (simp; done)) | with_reducible refine keep_alloc ?_ | with_reducible refine keep_drew ?_ | with_reducible refine keep_cell (by assumption) ?_)); rintro x w9 ⟨rfl, hb9⟩)
        | (go_at_call_of 27 (Value.int .i64 4); refine (HP4.out _ _ ?_).mono ?_; (repeat (first | (with_reducible refine new_cell ?_ ?_ <;> first | rfl | (simp; done)) | with_reducible refine keep_alloc ?_ | with_reducible refine keep_drew ?_ | with_reducible refine keep_cell (by assumption) ?_)); rintro x w9 ⟨rfl, hb9⟩)
        | (go_at_call_of 27 (Value.int .i64 8); refine (HP8.out _ _ ?_ ?_).mono ?_; (repeat (first | (with_reducible refine new_cell ?_ ?_ <;> first | rfl | (simp; done)) | with_reducible refine keep_alloc ?_ | with_reducible refine keep_drew ?_ | with_reducible refine keep_cell (by assumption) ?_)); (repeat (first | (with_reducible refine new_cell ?_ ?_ <;> first | rfl | (simp; done)) | with_reducible refine keep_alloc ?_ | with_reducible refine keep_drew ?_ | with_reducible refine keep_cell (by assumption) ?_)); rintro x w9 ⟨rfl, hb9⟩)
        | (go_at_call 26; refine (HS.out _ _ ?_ ?_ ?_ ?_ (HT.out.below ?_)).mono ?_; (repeat (first | (with_reducible refine new_cell ?_ ?_ <;> first | rfl | (simp; done)) | with_reducible refine keep_alloc ?_ | with_reducible refine keep_drew ?_ | with_reducible refine keep_cell (by assumption) ?_)); (repeat (first | (with_reducible refine new_cell ?_ ?_ <;> first | rfl | (simp; done)) | with_reducible refine keep_alloc ?_ | with_reducible refine keep_drew ?_ | with_reducible refine keep_cell (by assumption) ?_)); (repeat (first | (with_reducible refine new_cell ?_ ?_ <;> first | rfl | (simp; done)) | with_reducible refine keep_alloc ?_ | with_reducible refine keep_drew ?_ | with_reducible refine keep_cell (by assumption) ?_)); (repeat (first | (with_reducible refine new_cell ?_ ?_ <;> first | rfl | (simp; done)) | with_reducible refine keep_alloc ?_ | with_reducible refine keep_drew ?_ | with_reducible refine keep_cell (by assumption) ?_)); (repeat (first | with_reducible assumption | with_reducible refine bw_alloc ?_ | with_reducible refine bw_drew ?_ | with_reducible refine bw_call (by assumption) ?_)); rintro x w9 ⟨rfl, hb9⟩))
    all_goals go_wp2
    all_goals go_ret
    all_goals refine ⟨rfl, ?_⟩
    all_goals (repeat (first | with_reducible assumption | with_reducible refine bw_alloc ?_ | with_reducible refine bw_drew ?_ | with_reducible refine bw_call (by assumption) ?_))

theorem make_any (e a g : Int) (d : ByteArray) (sa : Option Addr) (ss : List ByteArray) (cap : Nat) (w : World) (he : (Lit.int .i64 e).wf = true) (ha : (Lit.int .i64 a).wf = true) (hg : (Lit.int .i64 g).wf = true)
    (hd : d.size ≤ 100000) (hl : lens ss ≤ 100000) (hn : ss.length ≤ 1000) (hc : ss.length ≤ cap) (hss : Short ss) (hsa : StrsAt w sa ss) (ht : Tab w) :
    Calls Tryd.prog 11 #[.agg #[.int .i64 e, .int .i64 a, .int .i64 g, .string d], .slice sa ss.length cap] w fun x w' =>
      x = .returned (.string (makeStr e a g (d ++ ⟨(joined ss).toArray⟩))) ∧ Below w.heap.size w w' := by
  by_cases hbig : 225 < d.size + (25 + lens ss)
  · exact make_big e a g d sa ss cap w he ha hg hd hl hn hc hss hsa ht hbig
  · cases hr : frRight e a g (d ++ ⟨(joined ss).toArray⟩ : ByteArray).size
    · exact make_no e a g d sa ss cap w he ha hg hd hl hn hc hss hsa ht hbig hr
    · exact make_yes e a g d sa ss cap w he ha hg hd hl hn hc hss hsa ht hbig hr
end Go.Proofs.YtpfgdmjgeelobaaDoor
