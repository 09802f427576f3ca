/-
  THE CONTRACT OF quadrigalaw01.awake: the document's examples hold.
-/
import Derived.Test.YtjpllcdjiagjlaaNumsPut
namespace Go.Proofs.Ytjpllcdjiagjlaa
open Go.RowKit

theorem list_ok (S : Nat) (B : Nat → Prop) (l : List Int) (w : World) (h : SetOk w B S l) (h0 : l ≠ []) :
    Calls Try.prog 10 #[.pointer (some ⟨S, 0, none⟩)] w (ListPost w l) := by
  obtain ⟨bl, his, hg, rfl⟩ := h
  have hb : 0 < bl.length := by
    rcases bl with _ | ⟨b, r⟩
    · exact absurd rfl h0
    · simp
  exact list_any S B bl w his hg.ok hb

set_option maxHeartbeats 1000000 in
theorem awake_any (w : World) : Calls Try.prog 4 #[] w fun e w' => e = .returned (.bool true) ∧ Below w.heap.size w w' := by
  have HP : Hid (∀ W, Below w.heap.size w W → Calls Try.prog 16 #[.int .i64 2, .slice (some ⟨W.heap.size, 0, none⟩) 2 2] (W.alloc (.cells #[.int .i64 1, .int .i64 258] 3)) fun e w' => e = .returned (.string ⟨#[0, 1, 1, 2]⟩) ∧ Below w.heap.size w w') := fun W hW => by
    have hb : Below w.heap.size w (W.alloc (.cells #[.int .i64 1, .int .i64 258] 3)) := hW.alloc hW.size _
    refine (put_any 2 (some ⟨W.heap.size, 0, none⟩) [1, 258] 2 _ (by omega) (by intro n hn; simp at hn; rcases hn with rfl | rfl <;> decide) (by simp) (two_ints W 1 258 _)).mono fun e w' h => ⟨?_, hb.trans (h.2.mono hb.size)⟩
    rw [h.1]
    have : putL 2 [1, 258] = [0, 1, 1, 2] := by decide
    rw [this]
  have HO : Hid (∀ W, Below w.heap.size w W → Calls Try.prog 5 #[.slice (some ⟨W.heap.size, 0, none⟩) 3 3] (W.alloc (.cells #[.int .i64 3, .int .i64 1, .int .i64 3] 3)) fun e w' => ∃ S, e = .returned (.pointer (some ⟨S, 0, none⟩)) ∧ SetOk w' (fun k => k < W.heap.size + 1) S [1, 3] ∧ Below w.heap.size w w') := fun W hW => by
    have hb : Below w.heap.size w (W.alloc (.cells #[.int .i64 3, .int .i64 1, .int .i64 3] 3)) := hW.alloc hW.size _
    have hz : (W.alloc (.cells #[.int .i64 3, .int .i64 1, .int .i64 3] 3)).heap.size = W.heap.size + 1 := by simp
    refine (of_any 255 adds_255 (some ⟨W.heap.size, 0, none⟩) [3, 1, 3] 3 _ (by simp) (by simp) (three_ints W 3 1 3 _) (fun _ b off h => by simp at h; omega)).mono ?_
    rintro e w' ⟨S, rfl, hs, hb2⟩
    rw [hz] at hs
    have : putAll [] [3, 1, 3] = [1, 3] := by decide
    rw [this] at hs
    exact ⟨S, rfl, hs, hb.trans (hb2.mono hb.size)⟩
  have HM : Hid (∀ W, Below w.heap.size w W → Calls Try.prog 17 #[.int .i64 1, .slice (some ⟨W.heap.size, 0, none⟩) 2 2] (W.alloc (.cells #[.int .i64 5, .int .i64 2] 3)) fun e w' => e = .returned (.int .i64 5) ∧ Below w.heap.size w w') := fun W hW => by
    have hb : Below w.heap.size w (W.alloc (.cells #[.int .i64 5, .int .i64 2] 3)) := hW.alloc hW.size _
    refine (most_any 1 (some ⟨W.heap.size, 0, none⟩) [5, 2] 2 _ (by unfold maxLen; simp) (two_ints W 5 2 _)).mono ?_
    rintro e w' ⟨rfl, rfl⟩
    exact ⟨rfl, hb⟩
  go_enter Try.func4, Try.ntmps4
  go_wp2_with fail
  refine (HP.out _ (Below.refl _ _)).mono ?_
  rintro e w1 ⟨rfl, hb1⟩
  go_wp2_with fail
  refine (HO.out _ hb1).mono ?_
  rintro e w2 ⟨S, rfl, hs, hb2⟩
  have HL := Lib.hid ((list_ok S _ [1, 3] w2 hs (by simp)))
  clear hs
  go_wp2_with fail
  refine HL.out.mono ?_
  rintro e w3 ⟨v, rfl, hown, hb3⟩
  have hb3w := hb2.trans (hb3.mono hb2.size)
  obtain ⟨a, c, rfl, hia⟩ := ints_of_owns (l := [1, 3]) hown
  clear hown
  have HS : Hid (Calls Try.prog 9 #[.slice a 2 c, .slice (some ⟨w3.heap.size, 0, none⟩) 2 2] (w3.alloc (.cells #[.int .i64 1, .int .i64 3] 3)) fun e w' => e = .returned (.bool true) ∧ Below w.heap.size w w') := by
    have hb : Below w.heap.size w (w3.alloc (.cells #[.int .i64 1, .int .i64 3] 3)) := hb3w.alloc hb3w.size _
    refine (same_any a (some ⟨w3.heap.size, 0, none⟩) [1, 3] [1, 3] c 2 _ (by unfold maxLen; simp) (by unfold maxLen; simp) (hia.below ((Below.refl _ _).alloc (Nat.le_refl _) _)) (two_ints w3 1 3 _)).mono ?_
    rintro e w' ⟨rfl, h2⟩
    exact ⟨rfl, hb.trans (h2.mono hb.size)⟩
  clear hia
  have hll : ([1, 3] : List Int).length = 2 := rfl
  rw [hll]
  clear hll
  go_wp2_with fail
  refine HS.out.mono ?_
  rintro e w4 ⟨rfl, hb4⟩
  go_wp2_with fail
  refine (HM.out _ hb4).mono ?_
  rintro e w5 ⟨rfl, hb5⟩
  go_wp2
  go_ret
  exact ⟨rfl, hb5⟩
end Go.Proofs.Ytjpllcdjiagjlaa
