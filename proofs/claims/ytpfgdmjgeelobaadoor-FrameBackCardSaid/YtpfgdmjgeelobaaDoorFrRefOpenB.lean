/-
  quadrigaref03.Open, where the sum is another.
-/
import Derived.Test.YtpfgdmjgeelobaaDoorFrRefWords
namespace Go.Proofs.YtpfgdmjgeelobaaDoor
open Go.RowKit Crc

set_option maxHeartbeats 4000000 in
theorem refOpen_b (s D : ByteArray) (E A G : Nat) (w : World) (hs : s.size ≤ 100000) (h0 : 0 < s.size) (h25 : 25 ≤ s.size) (hlt : s[0].toNat < 2 ^ 8) (h2 : 25 + s[0].toNat ≤ s.size)
    (hdz : D.size = s[0].toNat) (hDe : s.extract 21 (21 + s[0].toNat) = D)
    (hE : Hid (∀ W, Calls Tryd.prog 31 #[.string (s.extract 1 s.size), .int .i64 4] W fun e w' => e = .returned (.tuple #[.int .i64 E, .bool true]) ∧ W = w'))
    (HA : Hid (∀ W, Calls Tryd.prog 31 #[.string (s.extract 5 s.size), .int .i64 8] W fun e w' => e = .returned (.tuple #[.int .i64 A, .bool true]) ∧ W = w'))
    (HG : Hid (∀ W, Calls Tryd.prog 31 #[.string (s.extract 13 s.size), .int .i64 8] W fun e w' => e = .returned (.tuple #[.int .i64 G, .bool true]) ∧ W = w'))
    (HR : Hid (∀ W, Calls Tryd.prog 9 #[.agg #[.int .i64 E, .int .i64 A, .int .i64 G, .string D]] W fun x w' => x = .returned (.bool true) ∧ Below W.heap.size W w'))
    (Z : ByteArray) (HM : Hid (∀ W, Calls Tryd.prog 10 #[.agg #[.int .i64 E, .int .i64 A, .int .i64 G, .string D]] W fun x w' => x = .returned (.string Z) ∧ Below W.heap.size W w'))
    (hmk : (Z.toList == (s.extract 0 (25 + D.size)).toList) = false) :
    Calls Tryd.prog 14 #[.string s] w fun x w' => x = .returned (.tuple #[.agg #[.int .i64 0, .int .i64 0, .int .i64 0, .string ⟨#[]⟩], .bool false]) ∧ Below w.heap.size w w' := by
  have h2' : (25 : Int) + (s[0].toNat : Int) ≤ (s.size : Int) := by omega
  have h21 : (21 : Int) + (s[0].toNat : Int) ≤ (s.size : Int) := by omega
  have h20 : (21 : Int) ≤ (21 : Int) + (s[0].toNat : Int) := by omega
  have h2D : (25 : Int) + (D.size : Int) ≤ (s.size : Int) := by omega
  have h0D : (0 : Int) ≤ (25 : Int) + (D.size : Int) := by omega
  have hDb : D.size < 256 := by omega
  clear hdz
  go_enter Tryd.func14, Tryd.ntmps14
  go_wp2_with fail
  refine (hE.out _).mono ?_
  rintro x w1 ⟨rfl, rfl⟩
  go_wp2_with fail
  refine (HA.out _).mono ?_
  rintro x w1 ⟨rfl, rfl⟩
  go_wp2_with fail
  refine (HG.out _).mono ?_
  rintro x w1 ⟨rfl, rfl⟩
  go_wp2_with fail
  clear hE HA HG
  have hwD : IntKind.i64.wrap (25 + (D.size : Int)) = 25 + (D.size : Int) := by rw [IntKind.wrap_i64]; omega
  have eND : ((25 : Int) + (D.size : Int)).toNat = 25 + D.size := by omega
  (go_region_held3 (fun w' => w'.cell? ⟨w.heap.size + 1, 0, none⟩ = some (.int .i64 E) ∧ w'.cell? ⟨w.heap.size + 1, 1, none⟩ = some (.int .i64 A) ∧ w'.cell? ⟨w.heap.size + 1, 2, none⟩ = some (.int .i64 G) ∧ w'.cell? ⟨w.heap.size + 1, 3, none⟩ = some (.string D))
        ((refine ⟨?_, ?_, ?_, ?_⟩ <;> (repeat (first | ((with_reducible refine new_cell ?_ ?_) <;> first | rfl | (simp; done)) | with_reducible assumption | with_reducible refine keep_alloc ?_ | with_reducible refine keep_drew ?_ | with_reducible refine keep_cell (by assumption) ?_))))
        (first | (go_at_call 9; refine (HR.out _).mono ?_; rintro x w9 ⟨rfl, hb9⟩) | (go_at_call 10; refine (HM.out _).mono ?_; rintro x w10 ⟨rfl, hb10⟩)))
  have hbX : Below (w.alloc (.cells #[.int .i64 0, .int .i64 0, .int .i64 0, .string ⟨#[]⟩] 23)).heap.size (w.alloc (.cells #[.int .i64 0, .int .i64 0, .int .i64 0, .string ⟨#[]⟩] 23)) w10 := by (repeat (first | with_reducible exact Below.refl _ _ | with_reducible refine bw_set ?_ (Nat.le_refl _) | with_reducible refine bw_drewN ?_ | with_reducible refine bw_alloc ?_ | with_reducible refine bw_drew ?_ | with_reducible refine bw_call (by assumption) ?_))
  have hc6 := block_cells (after_alloc hbX) rfl
  go_wp2
  obtain ⟨W', hW', c0, c1, c2, c3, hbW⟩ := set4 (v0 := .int .i64 0) (v1 := .int .i64 0) (v2 := .int .i64 0) (v3 := .string ⟨#[]⟩) (((Below.refl _ w).alloc (Nat.le_refl _) _).trans ((after_alloc hbX).mono (Nat.le_succ _))) (Nat.le_refl _) hc6.1
  rw [← hW']
  refine bodyPost_ret (v := .tuple #[.agg #[.int .i64 0, .int .i64 0, .int .i64 0, .string ⟨#[]⟩], .bool false]) (by simp [results, Tryd.results14, go_sem, c0, c1, c2, c3]) rfl ⟨rfl, hbW⟩
end Go.Proofs.YtpfgdmjgeelobaaDoor
