/-
  THE CONTRACT OF quadrigalaw17.awake: the example answers yes.
-/
import Derived.Test.YtophbefmlfieeaaTxNew
namespace Go.Proofs.Ytophbefmlfieeaa
open Go.RowKit
set_option maxRecDepth 100000 in
set_option maxHeartbeats 4000000 in
theorem awake17_any (W : World) : Calls Try.prog 8 #[] W fun x w' => x = .returned (.bool true) ∧ Below W.heap.size W w' := by
  have KN := Lib.hid (tnew_any W)
  go_enter Try.func8, Try.ntmps8
  go_wp2_with fail
  refine KN.out.mono ?_
  rintro x w1 ⟨t, M, rfl, hT, hb1, hMt⟩
  have HT := Lib.hid hT
  have HB1 := Lib.hid hb1
  clear hT hb1 KN
  have ha := (Below.refl w1.heap.size w1).alloc (Nat.le_refl _) (.cells #[.bool true, .string ⟨#[120]⟩] 36)
  have hs1 : (w1.alloc (.cells #[.bool true, .string ⟨#[120]⟩] 36)).heap.size = w1.heap.size + 1 := World.size_alloc _ _
  have x0 : (w1.alloc (.cells #[.bool true, .string ⟨#[120]⟩] 36)).cell? ⟨w1.heap.size, 0, none⟩ = some (.bool true) := new_cell rfl rfl
  have x1 : (w1.alloc (.cells #[.bool true, .string ⟨#[120]⟩] 36)).cell? ⟨w1.heap.size, 1, none⟩ = some (.string ⟨#[120]⟩) := new_cell rfl rfl
  have hb := (Below.refl (w1.alloc (.cells #[.bool true, .string ⟨#[120]⟩] 36)).heap.size _).alloc (Nat.le_refl _) (.cells #[.bool true, .string ⟨#[121]⟩] 36)
  have hs2 : ((w1.alloc (.cells #[.bool true, .string ⟨#[120]⟩] 36)).alloc (.cells #[.bool true, .string ⟨#[121]⟩] 36)).heap.size = w1.heap.size + 2 := by rw [World.size_alloc, hs1]
  have y0 : ((w1.alloc (.cells #[.bool true, .string ⟨#[120]⟩] 36)).alloc (.cells #[.bool true, .string ⟨#[121]⟩] 36)).cell? ⟨w1.heap.size + 1, 0, none⟩ = some (.bool true) := new_cell hs1.symm rfl
  have y1 : ((w1.alloc (.cells #[.bool true, .string ⟨#[120]⟩] 36)).alloc (.cells #[.bool true, .string ⟨#[121]⟩] 36)).cell? ⟨w1.heap.size + 1, 1, none⟩ = some (.string ⟨#[121]⟩) := new_cell hs1.symm rfl
  replace x0 := keep_cell hb x0
  replace x1 := keep_cell hb x1
  have hbb := ha.trans (hb.mono ha.size)
  go_upto_region 3 with fail
  have HBB := Lib.hid hbb
  clear ha hb hbb
  generalize (w1.alloc (.cells #[.bool true, .string ⟨#[120]⟩] 36)).alloc (.cells #[.bool true, .string ⟨#[121]⟩] 36) = Y at *
  have hMY : M < Y.heap.size ∧ t < Y.heap.size := by
    have h1 := HT.out.lts
    have h2 := HBB.out.size
    omega
  have T1 := Lib.hid (HT.out.below HBB.out)
  have B1 := Lib.hid (HB1.out.trans (HBB.out.mono HB1.out.size))
  clear HT HB1 HBB
  have hA : AwI W W.heap.size t M Y.heap.size 0 (Y.alloc (.cells #[.int .i64 1, .int .i64 1, .int .i64 5, .int .i64 0, .int .i64 0, .string ⟨#[]⟩, .bool false, .string ⟨#[]⟩, .bool false, .string ⟨#[]⟩, .int .i64 0, .int .i64 2, .int .i64 2, .int .i64 5, .int .i64 1, .int .i64 0, .string ⟨#[97]⟩, .bool false, .string ⟨#[]⟩, .bool true, .string ⟨#[120]⟩, .int .i64 0, .int .i64 4, .int .i64 4, .int .i64 5, .int .i64 2, .int .i64 0, .string ⟨#[]⟩, .bool false, .string ⟨#[]⟩, .bool false, .string ⟨#[]⟩, .int .i64 0, .int .i64 2, .int .i64 5, .int .i64 5, .int .i64 4, .int .i64 0, .string ⟨#[97]⟩, .bool true, .string ⟨#[120]⟩, .bool true, .string ⟨#[121]⟩, .int .i64 0] 38)) := by
    refine ⟨.inr ⟨_, 0, rfl, fun i hi => ?_⟩, B1.out.alloc B1.out.size _, by rw [World.size_alloc]; omega, 0, fun _ => none, by omega, fun _ => rfl, T1.out.below ((Below.refl _ _).alloc (Nat.le_refl _) _), fun j c => by rw [own_none c]; omega, rfl⟩
    match i, hi with
    | 0, _ => exact ⟨new_cell rfl rfl, new_cell rfl rfl, new_cell rfl rfl, new_cell rfl rfl, new_cell rfl rfl, new_cell rfl rfl, new_cell rfl rfl, new_cell rfl rfl, new_cell rfl rfl, new_cell rfl rfl, new_cell rfl rfl⟩
    | 1, _ => exact ⟨new_cell rfl rfl, new_cell rfl rfl, new_cell rfl rfl, new_cell rfl rfl, new_cell rfl rfl, new_cell rfl rfl, new_cell rfl rfl, new_cell rfl rfl, new_cell rfl rfl, new_cell rfl rfl, new_cell rfl rfl⟩
    | 2, _ => exact ⟨new_cell rfl rfl, new_cell rfl rfl, new_cell rfl rfl, new_cell rfl rfl, new_cell rfl rfl, new_cell rfl rfl, new_cell rfl rfl, new_cell rfl rfl, new_cell rfl rfl, new_cell rfl rfl, new_cell rfl rfl⟩
    | 3, _ => exact ⟨new_cell rfl rfl, new_cell rfl rfl, new_cell rfl rfl, new_cell rfl rfl, new_cell rfl rfl, new_cell rfl rfl, new_cell rfl rfl, new_cell rfl rfl, new_cell rfl rfl, new_cell rfl rfl, new_cell rfl rfl⟩
    | i + 4, hi => exact absurd hi (by simp [twL])
  have KNN : Hid (Calls Try.prog 11 #[.pointer (some ⟨t, 0, none⟩), .int .i64 0, .slice (some ⟨Y.heap.size, 0, none⟩) 4 4] (Y.alloc (.cells #[.int .i64 1, .int .i64 1, .int .i64 5, .int .i64 0, .int .i64 0, .string ⟨#[]⟩, .bool false, .string ⟨#[]⟩, .bool false, .string ⟨#[]⟩, .int .i64 0, .int .i64 2, .int .i64 2, .int .i64 5, .int .i64 1, .int .i64 0, .string ⟨#[97]⟩, .bool false, .string ⟨#[]⟩, .bool true, .string ⟨#[120]⟩, .int .i64 0, .int .i64 4, .int .i64 4, .int .i64 5, .int .i64 2, .int .i64 0, .string ⟨#[]⟩, .bool false, .string ⟨#[]⟩, .bool false, .string ⟨#[]⟩, .int .i64 0, .int .i64 2, .int .i64 5, .int .i64 5, .int .i64 4, .int .i64 0, .string ⟨#[97]⟩, .bool true, .string ⟨#[120]⟩, .bool true, .string ⟨#[121]⟩, .int .i64 0] 38)) fun x w' => x = .returned (.int .i64 0) ∧ AwI W W.heap.size t M Y.heap.size 4 w') := aw_note hA
  rw [hs2] at KNN
  clear hA T1 B1 hMY
  go_wp2_with fail
  refine KNN.out.mono ?_
  rintro x w2 ⟨rfl, hA⟩
  obtain ⟨_, hB2, _, n, m, _, _, hT2, _, K, d, hm, hst, hla, hcl, hpl⟩ := hA
  have hba := (Below.refl w2.heap.size w2).alloc (Nat.le_refl _) (.cells #[.int .i64 0] 3)
  have n0 : (w2.alloc (.cells #[.int .i64 0] 3)).cell? ⟨w2.heap.size, 0 + 0, none⟩ = some (.int .i64 0) := new_cell rfl rfl
  have KP := tback_place (hT2.below hba) 5 (by decide) hm hst (by rw [hcl]; decide) (by rw [hpl]; decide) 0 w2.heap.size 0 0 1 (by omega) n0 (p1 := 0) (ch := 1) (by rw [hpl]; rfl) (by rw [hcl]; decide)
  have HB3 := Lib.hid (hB2.alloc hB2.size (.cells #[.int .i64 0] 3))
  have HT3 := Lib.hid (hT2.below hba)
  have KP := Lib.hid KP
  clear hB2 hba hT2 n0
  go_wp2_with fail
  refine KP.out.mono ?_
  rintro x w3 ⟨v, rfl, hr, hb3⟩
  rw [hcl] at hr
  have HT4 := Lib.hid (HT3.out.below hb3)
  have HB4 := Lib.hid (HB3.out.trans (hb3.mono HB3.out.size))
  have KA := Lib.hid (tback_all HT4.out 5 (by decide) hm hst (by rw [hcl]; decide))
  have HR := Lib.hid hr
  clear hr hb3 KP HT3 HB3
  go_wp2_with fail
  refine KA.out.mono ?_
  rintro x w4 ⟨v2, rfl, hr2, hb4⟩
  rw [hcl] at hr2
  have hr1 := HR.out.below hb4
  have HB5 := Lib.hid (HB4.out.trans (hb4.mono HB4.out.size))
  obtain ⟨g, c, rfl⟩ : ∃ g c, v = .slice (some ⟨g, 0, none⟩) 1 c := by
    rcases hr1.form with ⟨_, e⟩ | ⟨g, c, e, _⟩
    · cases e
    · exact ⟨g, c, e⟩
  obtain ⟨g2, c2, rfl⟩ : ∃ g c, v2 = .slice (some ⟨g, 0, none⟩) 2 c := by
    rcases hr2.form with ⟨_, e⟩ | ⟨g, c, e, _⟩
    · cases e
    · exact ⟨g, c, e⟩
  have q1 : w4.cell? ⟨g, 1, none⟩ = some (.int .i64 5) := hr1.cell 0 1 (by decide) (by omega) _ rfl
  have q2 : w4.cell? ⟨g2, 12, none⟩ = some (.int .i64 2) := hr2.cell 1 1 (by decide) (by omega) _ rfl
  clear hr1 hr2 hb4 HR KA HT4 HB4
  go_wp2
  go_ret
  exact ⟨rfl, HB5.out⟩
end Go.Proofs.Ytophbefmlfieeaa
