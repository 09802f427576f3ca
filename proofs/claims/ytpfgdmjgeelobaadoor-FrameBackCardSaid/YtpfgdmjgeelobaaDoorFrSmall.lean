/-
  THE CONTRACTS OF frame.within, right, Size, strings.Clone.
-/
import Derived.Test.YtpfgdmjgeelobaaDoorFrPure
import Derived.Laws.StructEq
namespace Go.Proofs.YtpfgdmjgeelobaaDoor
open Go.RowKit Crc

theorem within_any (n g : Int) (w : World) :
    Calls Tryd.prog 37 #[.int .i64 n, .int .i64 g] w fun e w' => e = .returned (.bool (decide (0 ≤ n) && decide (n ≤ g))) ∧ w = w' := by
  by_cases h : 0 ≤ n
  · go_enter Tryd.func37, Tryd.ntmps37
    go_wp2
    go_ret
    exact ⟨ret_bool (by simp [h]), rfl⟩
  · go_enter Tryd.func37, Tryd.ntmps37
    go_wp2
    go_ret
    exact ⟨ret_bool (by simp; omega), rfl⟩

theorem clone_any (s : ByteArray) (w : World) (hs : s.size ≤ 140737488355328) :
    Calls Tryd.prog 40 #[.string s] w fun e w' => e = .returned (.string s) ∧ Below w.heap.size w w' := by
  go_enter Tryd.func40, Tryd.ntmps40
  go_wp2_with fail
  refine (Tryd.stringslite_Clone s _ (by omega)).mono ?_
  rintro e w1 ⟨rfl, hb1⟩
  go_wp2
  go_ret
  exact ⟨rfl, hb1⟩

/-- A frame's value. -/
def frV (e a g : Int) (d : ByteArray) : Value := .agg #[.int .i64 e, .int .i64 a, .int .i64 g, .string d]

theorem right_any (e a g : Int) (d : ByteArray) (w : World) (hd : d.size ≤ 140737488355328) :
    Calls Tryd.prog 25 #[.agg #[.int .i64 e, .int .i64 a, .int .i64 g, .string d]] w fun x w' => x = .returned (.bool (frRight e a g d.size)) ∧ Below w.heap.size w w' := by
  have H1 := Lib.hid (fun W => within_any e 2147483647 W)
  have H2 := Lib.hid (fun W => within_any a 4611686018427387903 W)
  have H3 := Lib.hid (fun W => within_any g 4611686018427387903 W)
  have HR : Hid (frRight e a g d.size = (decide (0 ≤ e) && decide (e ≤ 2147483647) && (decide (0 ≤ a) && decide (a ≤ 4611686018427387903)) && (decide (0 ≤ g) && decide (g ≤ 4611686018427387903)) && decide (d.size ≤ 200))) := rfl
  generalize (decide (0 ≤ e) && decide (e ≤ 2147483647)) = b1 at H1 HR
  generalize (decide (0 ≤ a) && decide (a ≤ 4611686018427387903)) = b2 at H2 HR
  generalize (decide (0 ≤ g) && decide (g ≤ 4611686018427387903)) = b3 at H3 HR
  cases b1
  · go_enter Tryd.func25, Tryd.ntmps25
    go_wp2_with fail
    refine (H1.out _).mono ?_
    rintro x w1 ⟨rfl, rfl⟩
    go_wp2
    go_ret
    exact ⟨ret_bool (by rw [HR.out]; rfl), (Below.refl _ _).alloc (Nat.le_refl _) _⟩
  · cases b2
    · go_enter Tryd.func25, Tryd.ntmps25
      go_wp2_with fail
      refine (H1.out _).mono ?_
      rintro x w1 ⟨rfl, rfl⟩
      go_wp2_with fail
      refine (H2.out _).mono ?_
      rintro x w1 ⟨rfl, rfl⟩
      go_wp2
      go_ret
      exact ⟨ret_bool (by rw [HR.out]; rfl), (Below.refl _ _).alloc (Nat.le_refl _) _⟩
    · go_enter Tryd.func25, Tryd.ntmps25
      go_wp2_with fail
      refine (H1.out _).mono ?_
      rintro x w1 ⟨rfl, rfl⟩
      go_wp2_with fail
      refine (H2.out _).mono ?_
      rintro x w1 ⟨rfl, rfl⟩
      go_wp2_with fail
      refine (H3.out _).mono ?_
      rintro x w1 ⟨rfl, rfl⟩
      cases b3
      · go_wp2
        go_ret
        exact ⟨ret_bool (by rw [HR.out]; rfl), (Below.refl _ _).alloc (Nat.le_refl _) _⟩
      · go_wp2
        go_ret
        exact ⟨ret_bool (by rw [HR.out]; simp; omega), (Below.refl _ _).alloc (Nat.le_refl _) _⟩

/-- How many bytes texts have. -/
def lens (ss : List ByteArray) : Nat := (joined ss).length
theorem lens_take (ss : List ByteArray) (k : Nat) (h : k < ss.length) : lens (ss.take (k + 1)) = lens (ss.take k) + (ss.getD k ByteArray.empty).size := by
  unfold lens
  rw [joined_take ss k h, List.length_append]
  congr 1
theorem lens_le (ss : List ByteArray) (k : Nat) : lens (ss.take k) ≤ lens ss := by
  unfold lens joined
  have h : ss.flatMap (fun s => s.data.toList) = (ss.take k).flatMap (fun s => s.data.toList) ++ (ss.drop k).flatMap (fun s => s.data.toList) := by rw [← List.flatMap_append, List.take_append_drop]
  rw [h, List.length_append]; omega

set_option maxHeartbeats 400000 in
theorem size_any (a : Option Addr) (ss : List ByteArray) (cap : Nat) (w : World) (hn : ss.length ≤ 140737488355328) (hl : lens ss ≤ 140737488355328) (ha : StrsAt w a ss) :
    Calls Tryd.prog 12 #[.slice a ss.length cap] w fun e w' => e = .returned (.int .i64 ((25 + lens ss : Nat) : Int)) ∧ w = w' := by
  have HA := Lib.hid ha; clear ha
  go_enter Tryd.func12, Tryd.ntmps12
  go_wp2
  go_loop [3, 8] (fun x i => ∃ k : Nat, k ≤ ss.length ∧ i = .int .i64 k ∧ x = .int .i64 ((25 + lens (ss.take k) : Nat) : Int)) (fun _ i => ss.length - (intOf i).toNat)
  case atStart => exact ⟨0, Nat.zero_le _, rfl, rfl⟩
  case round =>
    obtain ⟨k, hk, rfl, rfl⟩ := hrel
    by_cases hlt : k < ss.length
    · obtain ⟨b, off, rfl, hc⟩ : ∃ b off, a = some ⟨b, off, none⟩ ∧ ∀ i, i < ss.length → w.cell? ⟨b, off + i, none⟩ = some (.string (ss.getD i ByteArray.empty)) := by
        rcases HA.out with h | h
        · rw [h] at hlt; simp at hlt
        · exact h
      have hck := hc k hlt
      clear hc
      have HL := Lib.hid (lens_take ss k hlt)
      have h2 := lens_le ss (k + 1)
      rw [HL.out] at h2
      obtain ⟨s, hs⟩ : ∃ s, s = ss.getD k ByteArray.empty := ⟨_, rfl⟩
      obtain ⟨m, hm⟩ : ∃ m, m = lens (ss.take k) := ⟨_, rfl⟩
      rw [← hs, ← hm] at HL h2
      rw [← hs] at hck
      rw [← hm]
      clear hs hm
      go_wp2
      go_round
      case rel => exact ⟨k + 1, by omega, by go_num, by rw [HL.out]; go_num⟩
      case measure => simp [intOf]; omega
    · have hfull : lens (ss.take k) = lens ss := by rw [List.take_of_length_le (by omega)]
      rw [hfull]
      go_wp2
      go_ret
      exact ⟨rfl, rfl⟩
end Go.Proofs.YtpfgdmjgeelobaaDoor
