/-
  AN AREA IN MEMORY; the contracts of Len, New, open, piece, nums.Sum, sizeOf.
-/
import Derived.Test.YtckhdknehdjhoaaDoorDvDoor
namespace Go.Proofs.YtckhdknehdjhoaaDoor
open Go.RowKit
/-- Block A is an area of the device D. -/
structure ArAt (W : World) (A D first count : Nat) : Prop where
  a0 : W.cell? ⟨A, 0, none⟩ = some (.pointer (some ⟨D, 0, none⟩))
  a1 : W.cell? ⟨A, 1, none⟩ = some (.int .i64 (first : Int))
  a2 : W.cell? ⟨A, 2, none⟩ = some (.int .i64 (count : Int))
  c : 1 ≤ count ∧ first + count ≤ 4096
theorem ArAt.below {W W' : World} {A D first count : Nat} (h : ArAt W A D first count) (hb : Below W.heap.size W W') : ArAt W' A D first count :=
  ⟨keep_cell hb h.a0, keep_cell hb h.a1, keep_cell hb h.a2, h.c⟩
theorem ArAt.fr {P L M : Nat} {W W' : World} {A D first count : Nat} (h : ArAt W A D first count) (hf : Fr3 P L M W W') (h1 : A ≠ P) (h2 : A ≠ L) (h3 : A ≠ M) : ArAt W' A D first count :=
  ⟨hf.cell h.a0 h1 h2 h3, hf.cell h.a1 h1 h2 h3, hf.cell h.a2 h1 h2 h3, h.c⟩
theorem ret_int {a b : Int} (h : a = b) : Ending.returned (.int .i64 a) = .returned (.int .i64 b) := by rw [h]
section
variable {W : World} {A D P L M n k first count : Nat} {u lf : Int} {las : List (List UInt8)} {f : Int → Option (List UInt8)}
theorem alen_any (h : ArAt W A D first count) :
    Calls Tryd.prog 8 #[.pointer (some ⟨A, 0, none⟩)] W fun e w' => e = .returned (.int .i64 ((64 * count : Nat) : Int)) ∧ w' = W := by
  have h2 := h.a2
  have hc := h.c
  clear h
  go_enter Tryd.func8, Tryd.ntmps8
  go_wp2
  go_ret
  exact ⟨ret_int (by omega), rfl⟩
theorem anew_any (h : DevAt W D P L M n k false u false lf las f) (hn : n ≤ 4096) (hc : 1 ≤ count ∧ first + count ≤ n) :
    Calls Tryd.prog 7 #[.pointer (some ⟨D, 0, none⟩), .int .i64 (first : Int), .int .i64 (count : Int)] W fun e w' => e = .returned (.pointer (some ⟨W.heap.size, 0, none⟩)) ∧ Hid (ArAt w' W.heap.size D first count) ∧ Hid (Below W.heap.size W w') ∧ w'.heap.size = W.heap.size + 1 := by
  have KS := Lib.hid ((sectors_any h).mono fun _ _ hh => (⟨hh.1, hh.2.symm⟩ : _ ∧ _))
  have h1 : (0 : Int) ≤ (first : Int) := by omega
  have h2 : (1 : Int) ≤ (count : Int) := by omega
  have h3 : (count : Int) ≤ (n : Int) - (first : Int) := by omega
  clear h
  go_enter Tryd.func7, Tryd.ntmps7
  go_wp2_with fail
  refine KS.out.mono ?_
  rintro e w1 ⟨rfl, rfl⟩
  go_wp2
  go_ret
  exact ⟨rfl, ⟨new_cell rfl rfl, new_cell rfl rfl, new_cell rfl rfl, hc.1, by omega⟩, (Below.refl _ _).alloc (Nat.le_refl _) _, World.size_alloc _ _⟩
theorem open_yes (h : DevAt W D P L M n k false u false lf las f) (ha : ArAt W A D first count) (at' size : Int) (h0 : 0 ≤ at' ∧ at' ≤ 4611686018427387904) (h1 : 0 ≤ size ∧ size ≤ ((64 * count : Nat) : Int)) :
    Calls Tryd.prog 17 #[.pointer (some ⟨A, 0, none⟩), .int .i64 at', .int .i64 size] W fun e w' => e = .returned (.int .i64 0) ∧ w' = W := by
  have KO := Lib.hid ((devOn h).mono fun _ _ hh => (⟨hh.1, hh.2.symm⟩ : _ ∧ _))
  have KL := Lib.hid (alen_any ha)
  have h2 := ha.a0
  obtain ⟨h3, h4⟩ := h0
  obtain ⟨h5, h6⟩ := h1
  clear h ha
  generalize ((64 * count : Nat) : Int) = z at KL h6
  go_enter Tryd.func17, Tryd.ntmps17
  go_wp2_with fail
  refine KL.out.mono ?_
  rintro e w1 ⟨rfl, rfl⟩
  go_wp2_with fail
  refine KO.out.mono ?_
  rintro e w1 ⟨rfl, rfl⟩
  go_wp2
  go_ret
  exact ⟨rfl, rfl⟩
theorem open_no (ha : ArAt W A D first count) (at' size : Int) (h0 : ¬ ((0 ≤ at' ∧ at' ≤ 4611686018427387904) ∧ size ≤ ((64 * count : Nat) : Int))) (h1 : 0 ≤ size) :
    Calls Tryd.prog 17 #[.pointer (some ⟨A, 0, none⟩), .int .i64 at', .int .i64 size] W fun e w' => e = .returned (.int .i64 1) ∧ w' = W := by
  have KL := Lib.hid (alen_any ha)
  clear ha
  generalize ((64 * count : Nat) : Int) = z at KL h0
  by_cases a0 : 0 ≤ at'
  · by_cases a1 : at' ≤ 4611686018427387904
    · have h6 : z < size := by omega
      clear h0
      go_enter Tryd.func17, Tryd.ntmps17
      go_wp2_with fail
      refine KL.out.mono ?_
      rintro e w1 ⟨rfl, rfl⟩
      go_wp2
      go_ret
      exact ⟨rfl, rfl⟩
    · have a1 : 4611686018427387904 < at' := by omega
      clear h0
      go_enter Tryd.func17, Tryd.ntmps17
      go_wp2
      go_ret
      exact ⟨rfl, rfl⟩
  · have a0 : at' < 0 := by omega
    clear h0
    go_enter Tryd.func17, Tryd.ntmps17
    go_wp2
    go_ret
    exact ⟨rfl, rfl⟩
theorem tup3 {a b c a' b' c' : Int} (h1 : a = a') (h2 : b = b') (h3 : c = c') : Ending.returned (.tuple #[.int .i64 a, .int .i64 b, .int .i64 c]) = .returned (.tuple #[.int .i64 a', .int .i64 b', .int .i64 c']) := by rw [h1, h2, h3]
/-- Where a piece begins: its sector, its place in it, up to where. -/
def pcQ (first count at' : Nat) : Nat := first + at' % (64 * count) / 64
def pcA (count at' : Nat) : Nat := at' % (64 * count) % 64
def pcB (count at' size : Nat) : Nat := min (pcA count at' + size) 64
theorem piece_any (ha : ArAt W A D first count) (at' size : Nat) (h0 : at' ≤ 4611686018428000000) (h1 : size ≤ 1000000) :
    Calls Tryd.prog 20 #[.pointer (some ⟨A, 0, none⟩), .int .i64 (at' : Int), .int .i64 (size : Int)] W fun e w' => e = .returned (.tuple #[.int .i64 (pcQ first count at' : Int), .int .i64 (pcA count at' : Int), .int .i64 (pcB count at' size : Int)]) ∧ w' = W := by
  have KL := Lib.hid (alen_any ha)
  have h2 := ha.a1
  have hc := ha.c
  obtain ⟨N, hN⟩ : ∃ N, N = 64 * count := ⟨_, rfl⟩
  have hN0 : 0 < N := by omega
  rw [← hN] at KL
  have hNz : ¬ ((N : Int) = 0) := by omega
  have hm : Int.tmod (at' : Int) (N : Int) = ((at' % N : Nat) : Int) := by rw [Int.tmod_eq_emod_of_nonneg (by omega)]; rfl
  have hlt : at' % N < N := Nat.mod_lt _ hN0
  have HQ : Hid (pcQ first count at' = first + at' % N / 64) := by rw [hN]; rfl
  have HA : Hid (pcA count at' = at' % N % 64) := by rw [hN]; rfl
  have HB : Hid (pcB count at' size = min (at' % N % 64 + size) 64) := by rw [hN]; rfl
  generalize at' % N = p at hm hlt HQ HA HB
  have hN2 : N ≤ 300000 := by omega
  have hm2 : Int.tmod (p : Int) 64 = ((p % 64 : Nat) : Int) := by rw [Int.tmod_eq_emod_of_nonneg (by omega)]; rfl
  have hd2 : Int.tdiv (p : Int) 64 = ((p / 64 : Nat) : Int) := by rw [Int.tdiv_eq_ediv_of_nonneg (by omega)]; rfl
  have hd : p / 64 ≤ p := Nat.div_le_self _ _
  have hr : p % 64 < 64 := Nat.mod_lt _ (by omega)
  generalize p / 64 = d at hd2 hd HQ
  generalize p % 64 = r at hm2 hr HA HB
  clear ha hN
  go_enter Tryd.func20, Tryd.ntmps20
  go_wp2_with fail
  refine KL.out.mono ?_
  rintro e w1 ⟨rfl, rfl⟩
  go_wp2
  all_goals
    go_ret3
    refine ⟨?_, rfl⟩
    rw [HQ.out, HA.out, HB.out]
    exact tup3 (by omega) (by omega) (by omega)
end
end Go.Proofs.YtckhdknehdjhoaaDoor
