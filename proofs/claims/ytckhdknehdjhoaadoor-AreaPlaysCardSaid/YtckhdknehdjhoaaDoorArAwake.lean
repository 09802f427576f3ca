/-
  Set of what is not to be set; awake OF law 06.
-/
import Derived.Test.YtckhdknehdjhoaaDoorArSet
namespace Go.Proofs.YtckhdknehdjhoaaDoor
open Go.RowKit
section
variable {W : World} {A D first count : Nat}
set_option maxHeartbeats 1000000 in
theorem set_no (ha : ArAt W A D first count) (at' : Int) (sa : Option Addr) (ss : List ByteArray) (sc : Nat) (hss : ss.length ≤ 1000) (hsa : StrsAt W sa ss) (hsz : ∀ s ∈ ss, s.size ≤ 140737488351232)
    (hno : ¬ ((0 ≤ at' ∧ at' ≤ 4611686018427387904) ∧ ((joined ss).length : Int) ≤ ((64 * count : Nat) : Int))) :
    Calls Tryd.prog 11 #[.pointer (some ⟨A, 0, none⟩), .int .i64 at', .slice sa ss.length sc] W fun e w' => e = .returned (.int .i64 1) ∧ Below W.heap.size W w' := by
  have KZ := Lib.hid (sizeOf_any sa ss sc W hss hsa hsz)
  have KO := Lib.hid (fun W1 (hb : Below W.heap.size W W1) => open_no (ha.below hb) at' ((joined ss).length : Int) hno (by omega))
  clear ha hsa hno
  generalize joined ss = tx at *
  go_enter Tryd.func11, Tryd.ntmps11
  go_wp2_with fail
  refine KZ.out.mono ?_
  rintro e w1 ⟨rfl, hb1⟩
  go_wp2_with fail
  refine (KO.out _ hb1).mono ?_
  rintro e w2 ⟨rfl, rfl⟩
  go_wp2
  go_ret
  exact ⟨rfl, hb1⟩
end
def awV : ByteArray := ⟨#[99, 0, 0, 0, 0, 0, 0, 0, 0, 0, 0, 0, 0, 0, 0, 0, 0, 0, 0, 0, 0, 0, 0, 0, 0, 0, 0, 0, 0, 0, 0, 0, 0, 0, 0, 0, 0, 0, 0, 0, 0, 0, 0, 0, 0, 0, 0, 0, 0, 0, 0, 0, 0, 0, 0, 0, 0, 0, 0, 0, 0, 0, 97, 98]⟩
theorem two_str (w : World) (s1 s2 : ByteArray) (T : TypeId) : StrsAt (w.alloc (.cells #[.string s1, .string s2] T)) (some ⟨w.heap.size, 0, none⟩) [s1, s2] :=
  .inr ⟨w.heap.size, 0, rfl, fun i hi => by
    match i, hi with
    | 0, _ => exact new_cell rfl rfl
    | 1, _ => exact new_cell rfl rfl⟩
theorem awake_text : txt (getL (List.replicate 3 blank64) (setF (List.replicate 3 blank64) 1 1 (joined [⟨#[97, 98]⟩, ⟨#[99]⟩]).length 62 (joined [⟨#[97, 98]⟩, ⟨#[99]⟩]) (fun _ => none)) 1 1 64 0 64) = awV := by decide +kernel
set_option maxRecDepth 100000 in
set_option maxHeartbeats 4000000 in
theorem awake6_any (w : World) : Calls Tryd.prog 5 #[] w fun e w' => e = .returned (.bool true) ∧ Below w.heap.size w w' := by
  have KN := Lib.hid (new_dev 3 w (by omega) (by omega))
  go_enter Tryd.func5, Tryd.ntmps5
  go_wp2_with fail
  refine KN.out.mono ?_
  rintro e w1 ⟨D, P, L, M, rfl, hd, hb, q1, q2, q3⟩
  clear KN
  have KA := Lib.hid (anew_any (first := 1) (count := 1) hd.out (by omega) ⟨by omega, by omega⟩)
  obtain ⟨l1, l2, l3⟩ := hd.out.lts
  have l4 : M < w1.heap.size := by
    obtain ⟨_, hM, _⟩ := hd.out.mp
    exact hM.lt
  go_wp2_with fail
  refine KA.out.mono ?_
  rintro e w2 ⟨rfl, ha, hb2, hs2⟩
  clear KA
  clear hs2
  have hd2 := hd.out.below hb2.out
  have hbw := Lib.hid (hb.out.trans (hb2.out.mono hb.out.size))
  have hbs : Below w2.heap.size w2 (w2.alloc (.cells #[.string ⟨#[97, 98]⟩, .string ⟨#[99]⟩] 9)) := (Below.refl _ _).alloc (Nat.le_refl _) _
  have hs := hbw.out.size
  have KS := Lib.hid (set_yes (hd2.below hbs) (ha.out.below hbs) ⟨by omega, by omega, by omega⟩ (f := fun _ => none) (fun _ _ h => by cases h) ⟨by omega, by omega⟩ ⟨by omega, by omega⟩ (by omega) 62 (by omega) (some ⟨w2.heap.size, 0, none⟩) [⟨#[97, 98]⟩, ⟨#[99]⟩] 2 (by simp) (by simp) (two_str w2 _ _ 9) (fun s hs => by
    simp at hs
    rcases hs with rfl | rfl <;> decide) (by show 3 ≤ 64; omega) (by show 3 ≤ 4096; omega))
  obtain ⟨F, hF⟩ : ∃ F, F = setF (List.replicate 3 blank64) 1 1 (joined [⟨#[97, 98]⟩, ⟨#[99]⟩]).length 62 (joined [⟨#[97, 98]⟩, ⟨#[99]⟩]) (fun _ => none) := ⟨_, rfl⟩
  rw [← hF] at KS
  have hGt : txt (getL (List.replicate 3 blank64) F 1 1 64 0 64) = awV := by rw [hF]; exact awake_text
  clear hF
  have ha2 := Lib.hid (ha.out.below hbs)
  have hbw2 := Lib.hid (hbw.out.trans (hbs.mono hs))
  clear hd hb hb2 hd2 hbs ha hbw
  go_wp2_with fail
  refine KS.out.mono ?_
  rintro e w3 ⟨rfl, c, _, hd3, hf3, hO⟩
  clear KS
  have ha3 := ha2.out.fr hf3.out (by omega) (by omega) (by omega)
  have hbw3 := Lib.hid (hbw2.out.trans (hf3.out.below hbw2.out.size q1 q2 q3))
  have KG := Lib.hid (get_any hd3.out ha3 (fun z l h => (hO.out z l h).2.2) ⟨by omega, by omega⟩ 0 64 (by omega) (by omega))
  rw [hGt] at KG
  clear hGt
  have KL := Lib.hid (fun W1 (hb : Below w3.heap.size w3 W1) => alen_any (ha3.below hb))
  clear hd3 hf3 ha2 ha3 hbw2
  have hV62 : awV.extract 62 64 = ⟨#[97, 98]⟩ := by decide +kernel
  have hVs : awV.size = 64 := rfl
  have hV0 : ∀ h : 0 < awV.size, (awV[0]'h).toNat = 99 := fun _ => rfl
  generalize awV = V at *
  have hs3 := hbw3.out.size
  go_wp2_with fail
  refine KG.out.mono ?_
  rintro e w4 ⟨rfl, hb4⟩
  go_wp2_with fail
  refine (KL.out _ hb4).mono ?_
  rintro e w5 ⟨rfl, rfl⟩
  go_wp2
  go_ret
  exact ⟨rfl, hbw3.out.trans (hb4.mono hs3)⟩
end Go.Proofs.YtckhdknehdjhoaaDoor
