/-
  THE WALK OF quadrigalaw03.FrameOpens: it returns true, and writes nothing that was there.
-/
import Derived.Test.YtpfgdmjgeelobaaDoorFrWake
import Derived.Test.YtpfgdmjgeelobaaDoorFrRefOpen
import Derived.Test.YtpfgdmjgeelobaaDoorFrVars
namespace Go.Proofs.YtpfgdmjgeelobaaDoor
open Go.RowKit Crc

set_option maxHeartbeats 1000000 in
theorem frameOpens_walk (s : ByteArray) (w : World) (hs : s.size ≤ maxLen) (ht : Tab w) :
    Calls Tryd.prog 4 #[.string s] w fun e w' => e = .returned (.bool true) ∧ Below w.heap.size w w' := by
  have HT := Lib.hid ht; clear ht
  unfold maxLen at hs
  have KA := Lib.hid (fun W (hW : Below w.heap.size w W) => (awake_fr W (HT.out.below hW)).mono fun e w' h => (⟨h.1, hW.trans (h.2.mono hW.size)⟩ : e = .returned (.bool true) ∧ Below w.heap.size w w'))
  by_cases hbig : 2000 < s.size
  · have hbig' : (2000 : Int) < (s.size : Int) := by omega
    go_enter Tryd.func4, Tryd.ntmps4
    go_wp2_with fail
    refine (KA.out _ (Below.refl _ _)).mono ?_
    rintro e w1 ⟨rfl, hb1⟩
    go_wp2
    go_ret
    exact ⟨rfl, hb1⟩
  · have hbig' : (s.size : Int) ≤ 2000 := by omega
    have HO := Lib.hid (fun W (hW : Below w.heap.size w W) => open_fr s W (by omega) (HT.out.below hW))
    have HQ := Lib.hid (fun W => refOpen_fr s W (by omega))
    cases hok : frOk s
    · rw [openVal_no hok] at HO
      rw [refOpenVal_no hok] at HQ
      go_enter Tryd.func4, Tryd.ntmps4
      go_wp2_with fail
      refine (HO.out _ (Below.refl _ _)).mono ?_
      rintro e w1 ⟨rfl, hb1⟩
      go_wp2_with fail
      refine (HQ.out _).mono ?_
      rintro e w2 ⟨rfl, hb2⟩
      have hv := var_cells hb2
      have k0 := hv 0
      have k1 := hv 1
      have k2 := hv 2
      have k3 := hv 3
      simp only [List.getElem?_toArray, List.getElem?_cons_zero, List.getElem?_cons_succ] at k0 k1 k2 k3
      have hb3 := (hb1.alloc hb1.size _).trans (hb2.mono (by rw [World.size_alloc]; have := hb1.size; omega))
      have m0 := fun o => keep_alloc (o := o) k0
      have m1 := fun o => keep_alloc (o := o) k1
      have m2 := fun o => keep_alloc (o := o) k2
      have m3 := fun o => keep_alloc (o := o) k3
      go_wp2_with fail
      refine (KA.out _ ?_).mono ?_
      · exact hb3.alloc hb3.size _
      rintro e w4 ⟨rfl, hb4⟩
      go_wp2
      go_ret
      exact ⟨rfl, hb4⟩
    · rw [openVal_yes hok] at HO
      rw [refOpenVal_yes hok] at HQ
      have hD : (frD s).size = frN s := by
        apply frD_size
        unfold frOk at hok
        simp only [Bool.and_eq_true, decide_eq_true_eq] at hok
        omega
      rw [← hD] at HO
      have hDs : (frD s).size ≤ 255 := by have := frN_lt s; omega
      clear hok hD
      generalize frE s = E at *
      generalize frA s = A at *
      generalize frG s = G at *
      generalize frD s = D at *
      go_enter Tryd.func4, Tryd.ntmps4
      go_wp2_with fail
      refine (HO.out _ (Below.refl _ _)).mono ?_
      rintro e w1 ⟨rfl, hb1⟩
      go_wp2_with fail
      refine (HQ.out _).mono ?_
      rintro e w2 ⟨rfl, hb2⟩
      have hv := var_cells hb2
      have k0 := hv 0
      have k1 := hv 1
      have k2 := hv 2
      have k3 := hv 3
      simp only [List.getElem?_toArray, List.getElem?_cons_zero, List.getElem?_cons_succ] at k0 k1 k2 k3
      have hb3 := (hb1.alloc hb1.size _).trans (hb2.mono (by rw [World.size_alloc]; have := hb1.size; omega))
      have m0 := fun o => keep_alloc (o := o) k0
      have m1 := fun o => keep_alloc (o := o) k1
      have m2 := fun o => keep_alloc (o := o) k2
      have m3 := fun o => keep_alloc (o := o) k3
      go_wp2_with fail
      refine (KA.out _ ?_).mono ?_
      · exact hb3.alloc hb3.size _
      rintro e w4 ⟨rfl, hb4⟩
      go_wp2
      go_ret
      exact ⟨rfl, hb4⟩
end Go.Proofs.YtpfgdmjgeelobaaDoor
