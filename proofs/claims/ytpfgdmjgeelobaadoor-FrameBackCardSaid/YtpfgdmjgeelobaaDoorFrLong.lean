/-
  frame.Make WITH NO MORE DATA, HOWEVER LONG THE FRAME'S ARE; quadrigaref03.Right of any data.
-/
import Derived.Test.YtpfgdmjgeelobaaDoorFrRef
namespace Go.Proofs.YtpfgdmjgeelobaaDoor
open Go.RowKit Crc

theorem frRight_long {e a g : Int} {n : Nat} (h : 200 < n) : frRight e a g n = false := by
  unfold frRight; simp; omega

theorem right_long (e a g : Int) (d : ByteArray) (w : World) (hd : 200 < d.size) :
    Calls Tryd.prog 25 #[.agg #[.int .i64 e, .int .i64 a, .int .i64 g, .string d]] w fun x w' => x = .returned (.bool false) ∧ Below w.heap.size w w' := by
  have H1 := Lib.hid (fun W => within_any e 2147483647 W)
  have H2 := Lib.hid (fun W => within_any a 4611686018427387903 W)
  have H3 := Lib.hid (fun W => within_any g 4611686018427387903 W)
  have hd' : ¬ (d.size : Int) ≤ 200 := by omega
  generalize (decide (0 ≤ e) && decide (e ≤ 2147483647)) = b1 at H1
  generalize (decide (0 ≤ a) && decide (a ≤ 4611686018427387903)) = b2 at H2
  generalize (decide (0 ≤ g) && decide (g ≤ 4611686018427387903)) = b3 at H3
  cases b1
  · go_enter Tryd.func25, Tryd.ntmps25
    go_wp2_with fail
    refine (H1.out _).mono ?_
    rintro x w1 ⟨rfl, rfl⟩
    go_wp2
    go_ret
    exact ⟨rfl, (Below.refl _ _).alloc (Nat.le_refl _) _⟩
  · cases b2
    · go_enter Tryd.func25, Tryd.ntmps25
      go_wp2_with fail
      refine (H1.out _).mono ?_
      rintro x w1 ⟨rfl, rfl⟩
      go_wp2_with fail
      refine (H2.out _).mono ?_
      rintro x w1 ⟨rfl, rfl⟩
      go_wp2
      go_ret
      exact ⟨rfl, (Below.refl _ _).alloc (Nat.le_refl _) _⟩
    · go_enter Tryd.func25, Tryd.ntmps25
      go_wp2_with fail
      refine (H1.out _).mono ?_
      rintro x w1 ⟨rfl, rfl⟩
      go_wp2_with fail
      refine (H2.out _).mono ?_
      rintro x w1 ⟨rfl, rfl⟩
      go_wp2_with fail
      refine (H3.out _).mono ?_
      rintro x w1 ⟨rfl, rfl⟩
      cases b3
      · go_wp2
        go_ret
        exact ⟨rfl, (Below.refl _ _).alloc (Nat.le_refl _) _⟩
      · go_wp2
        go_ret
        exact ⟨ret_bool (by simp; omega), (Below.refl _ _).alloc (Nat.le_refl _) _⟩

set_option maxHeartbeats 1000000 in
theorem refRight_all (e a g : Int) (d : ByteArray) (w : World) :
    Calls Tryd.prog 9 #[.agg #[.int .i64 e, .int .i64 a, .int .i64 g, .string d]] w fun x w' => x = .returned (.bool (frRight e a g d.size)) ∧ Below w.heap.size w w' := by
  by_cases hd : 200 < d.size
  · have hr := Lib.hid (frRight_long (e := e) (a := a) (g := g) hd)
    have hd' : ¬ (d.size : Int) ≤ 200 := by omega
    rw [hr.out]
    go_enter Tryd.func9, Tryd.ntmps9
    go_wp2
    all_goals go_ret
    all_goals exact ⟨ret_bool (by first | rfl | (simp; omega)), (Below.refl _ _).alloc (Nat.le_refl _) _⟩
  · exact refRight_any e a g d w (by omega)

set_option maxHeartbeats 1000000 in
theorem make_long1 (e a g : Int) (d : ByteArray) (w : World) (hd : 200 < d.size) (hmax : d.size + 25 ≤ 9223372036854775807) :
    Calls Tryd.prog 11 #[.agg #[.int .i64 e, .int .i64 a, .int .i64 g, .string d], .slice none 0 0] w fun x w' => x = .returned (.string ⟨#[]⟩) ∧ Below w.heap.size w w' := by
  have HSZ := Lib.hid (fun W => (size_any none [] 0 W (by simp) (by simp [lens, joined]) (.inl rfl)).mono fun _ _ h => (⟨h.1, h.2.symm⟩ : _ ∧ _))
  change Hid (∀ W, Calls Tryd.prog 12 #[.slice none 0 0] W fun e w' => e = .returned (.int .i64 25) ∧ w' = W) at HSZ
  have hb' : (225 : Int) < (d.size : Int) + 25 := by omega
  go_enter Tryd.func11, Tryd.ntmps11
  go_wp2_with fail
  go_quiet ((go_at_call 12; exact Calls.quiet_of_same (HSZ.out _)))
  go_wp2
  go_ret
  exact ⟨rfl, below_drewN ((Below.refl _ _).alloc (Nat.le_refl _) _) _⟩

theorem wrap_over (n : Nat) (h : 9223372036854775807 < n + 25) (h2 : n ≤ 9223372036854775807) : IntKind.i64.wrap ((n : Int) + 25) = (n : Int) + 25 - 18446744073709551616 := by
  rw [IntKind.wrap_i64]; omega

set_option maxHeartbeats 1000000 in
theorem make_long2 (e a g : Int) (d : ByteArray) (w : World) (hmax : 9223372036854775807 < d.size + 25) (h2 : d.size ≤ 9223372036854775807) :
    Calls Tryd.prog 11 #[.agg #[.int .i64 e, .int .i64 a, .int .i64 g, .string d], .slice none 0 0] w fun x w' => x = .returned (.string ⟨#[]⟩) ∧ Below w.heap.size w w' := by
  have HSZ := Lib.hid (fun W => (size_any none [] 0 W (by simp) (by simp [lens, joined]) (.inl rfl)).mono fun _ _ h => (⟨h.1, h.2.symm⟩ : _ ∧ _))
  change Hid (∀ W, Calls Tryd.prog 12 #[.slice none 0 0] W fun e w' => e = .returned (.int .i64 25) ∧ w' = W) at HSZ
  have HJ := Lib.hid (fun W => join_any none [] 0 W (.inl rfl) (by simp) (by simp) (by simp [joined]))
  change Hid (∀ W, Calls Tryd.prog 24 #[.slice none 0 0, .string ⟨#[]⟩] W fun e w' => e = .returned (.string ⟨#[]⟩) ∧ Below W.heap.size W w') at HJ
  have HR := Lib.hid (fun W => right_long e a g d W (by omega))
  have hD : d ++ (⟨#[]⟩ : ByteArray) = d := by
    apply ByteArray.ext; simp [ByteArray.data_append]
  have hw := wrap_over d.size hmax h2
  have hc : ¬ (225 : Int) < (d.size : Int) + 25 - 18446744073709551616 := by omega
  have hs : ¬ 9223372036854775807 < d.size + 0 := by omega
  have hs2 : ¬ 9223372036854775807 < d.size := by omega
  have HD := Lib.hid hD
  clear hmax h2 hD
  go_enter Tryd.func11, Tryd.ntmps11
  go_wp2_with fail
  go_quiet ((go_at_call 12; exact Calls.quiet_of_same (HSZ.out _)))
  go_wp2_with fail
  go_cut [] (fun wx => wx.cell? ⟨w.heap.size, 0, none⟩ = some (.int .i64 e) ∧ wx.cell? ⟨w.heap.size, 1, none⟩ = some (.int .i64 a) ∧ wx.cell? ⟨w.heap.size, 2, none⟩ = some (.int .i64 g) ∧ wx.cell? ⟨w.heap.size, 3, none⟩ = some (.string d) ∧ Below w.heap.size w wx)
  case first =>
    go_region_with (go_at_call 24; refine (HJ.out _).mono ?_; rintro x w5 ⟨rfl, hb5⟩; have hb5 := after_drewN hb5; have hc5 := block_cells hb5 rfl; have k0 := hc5.1 0; have k1 := hc5.1 1; have k2 := hc5.1 2; have k3 := hc5.1 3; have k4 := hc5.2 3; simp only [List.getElem?_toArray, List.getElem?_cons_zero, List.getElem?_cons_succ] at k0 k1 k2 k3)
    all_goals go_wp2_with fail
    all_goals go_meet
    all_goals
      obtain ⟨W', hW', c0, c1, c2, c3, hbW, _⟩ := set_last (v := .string (d ++ (⟨#[]⟩ : ByteArray))) (((Below.refl _ w).alloc (Nat.le_refl _) _).trans (hb5.mono (Nat.le_succ _))) (Nat.le_refl _) hc5.1
      rw [← hW']
      exact ⟨c0, c1, c2, by rw [← HD.out]; exact c3, hbW⟩
  case rest =>
    obtain ⟨c0, c1, c2, c3, hbc⟩ := hcut
    go_wp2_with fail
    refine (HR.out _).mono ?_
    rintro x w6 ⟨rfl, hb6⟩
    have hb7 := hbc.trans (hb6.mono hbc.size)
    go_wp2
    go_ret
    exact ⟨rfl, hb7⟩

/-- What Make answers of a frame alone. -/
theorem make_alone (e a g : Int) (d : ByteArray) (w : World) (he : (Lit.int .i64 e).wf = true) (ha : (Lit.int .i64 a).wf = true) (hg : (Lit.int .i64 g).wf = true) (hd : d.size ≤ 9223372036854775807) (ht : Tab w) :
    Calls Tryd.prog 11 #[.agg #[.int .i64 e, .int .i64 a, .int .i64 g, .string d], .slice none 0 0] w fun x w' => x = .returned (.string (makeStr e a g d)) ∧ Below w.heap.size w w' := by
  by_cases h2 : 200 < d.size
  · have hM : makeStr e a g d = ⟨#[]⟩ := by unfold makeStr; rw [if_neg (by rw [frRight_long h2]; simp)]
    rw [hM]
    by_cases hm : d.size + 25 ≤ 9223372036854775807
    · exact make_long1 e a g d w h2 hm
    · exact make_long2 e a g d w (by omega) hd
  · have := make_any e a g d none [] 0 w he ha hg (by omega) (by simp [lens, joined]) (by simp) (by simp) (by intro x hx; simp at hx) (.inl rfl) ht
    have hD : d ++ (⟨(joined []).toArray⟩ : ByteArray) = d := by
      apply ByteArray.ext; simp [ByteArray.data_append, joined]
    rw [hD] at this
    exact this
end Go.Proofs.YtpfgdmjgeelobaaDoor
