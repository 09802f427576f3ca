/-
  LAW 05's DevicePlays where nothing is asked, or there is no device.
-/
import Derived.Test.YtobgopiadfinbaaDvPut
import Derived.Test.YtobgopiadfinbaaDvActs
import Derived.Deep.Cut
import Derived.Deep.CutRange
import Derived.Deep.DeepCutAuto
import Derived.Deep.CutBlock
namespace Go.Proofs.Ytobgopiadfinbaa
open Go.RowKit
theorem new_out (z : Int) (w : World) (P : Nat) (hz : z < 1 ∨ 4096 < z) : Calls Try.prog 6 #[.pointer (some ⟨P, 0, none⟩), .int .i64 z] w fun e w' => e = .returned (.pointer none) ∧ w = w' := by
  by_cases h : z < 1
  · clear hz
    go_enter Try.func6, Try.ntmps6
    go_wp2
    go_ret
    exact ⟨rfl, rfl⟩
  · have h1 : 1 ≤ z := by omega
    have h2 : 4096 < z := by omega
    clear hz h
    go_enter Try.func6, Try.ntmps6
    go_wp2
    go_ret
    exact ⟨rfl, rfl⟩
set_option maxRecDepth 100000 in
set_option maxHeartbeats 4000000 in
theorem play_awake (a b : Int) (la : Option Addr) (A : List Da) (cap : Nat) (w : World) (hn : A.length ≤ maxLen) (ha : DasAt w la A) (hg : greatB A = true ∨ (40 < a ∧ a ≤ 4096) ∨ (40 < b ∧ b ≤ 4096)) :
    Calls Try.prog 3 #[.int .i64 a, .int .i64 b, .slice la A.length cap] w fun e w' => e = .returned (.bool true) ∧ Below w.heap.size w w' := by
  have KG := Lib.hid (great_any la A cap w hn ha)
  have KA := Lib.hid (awake_any w)
  clear ha
  cases hg1 : greatB A with
  | true =>
    rw [hg1] at KG
    clear hg hg1
    go_enter Try.func3, Try.ntmps3
    go_wp2_with fail
    refine KG.out.mono ?_
    rintro e w1 ⟨rfl, rfl⟩
    go_wp2_with fail
    refine KA.out.mono ?_
    rintro e w1 ⟨rfl, hb⟩
    go_wp2
    go_ret
    exact ⟨rfl, hb⟩
  | false =>
    rw [hg1] at KG hg
    by_cases h1 : 40 < a ∧ a ≤ 4096
    · obtain ⟨h2, h3⟩ := h1
      clear hg hg1
      go_enter Try.func3, Try.ntmps3
      go_wp2_with fail
      refine KG.out.mono ?_
      rintro e w1 ⟨rfl, rfl⟩
      go_wp2_with fail
      refine KA.out.mono ?_
      rintro e w1 ⟨rfl, hb⟩
      go_wp2
      go_ret
      exact ⟨rfl, hb⟩
    · have h4 : 40 < b ∧ b ≤ 4096 := by
        rcases hg with e | e | e
        · cases e
        · exact absurd e h1
        · exact e
      obtain ⟨h2, h3⟩ := h4
      clear hg hg1
      by_cases h5 : a ≤ 40
      · clear h1
        go_enter Try.func3, Try.ntmps3
        go_wp2_with fail
        refine KG.out.mono ?_
        rintro e w1 ⟨rfl, rfl⟩
        go_wp2_with fail
        refine KA.out.mono ?_
        rintro e w1 ⟨rfl, hb⟩
        go_wp2
        go_ret
        exact ⟨rfl, hb⟩
      · have h6 : 40 < a := by omega
        have h7 : 4096 < a := by omega
        clear h1 h5
        go_enter Try.func3, Try.ntmps3
        go_wp2_with fail
        refine KG.out.mono ?_
        rintro e w1 ⟨rfl, rfl⟩
        go_wp2_with fail
        refine KA.out.mono ?_
        rintro e w1 ⟨rfl, hb⟩
        go_wp2
        go_ret
        exact ⟨rfl, hb⟩
/-- What New answers, of any number. -/
def NwP (z : Int) (w : World) (e : Ending) (w' : World) : Prop :=
  (e = .returned (.pointer none) ∧ (z < 1 ∨ 4096 < z) ∨ ∃ D, e = .returned (.pointer (some ⟨D, 0, none⟩)) ∧ 1 ≤ z ∧ z ≤ 4096) ∧ Below w.heap.size w w'
theorem new_z (z : Int) (w : World) (P : Nat) (hp : PowAt w P 0 0) : Calls Try.prog 6 #[.pointer (some ⟨P, 0, none⟩), .int .i64 z] w (NwP z w) := by
  by_cases h : z < 1 ∨ 4096 < z
  · refine (new_out z w P h).mono ?_
    rintro e w' ⟨rfl, rfl⟩
    exact ⟨.inl ⟨rfl, h⟩, Below.refl _ _⟩
  · obtain ⟨n, rfl⟩ := Int.eq_ofNat_of_zero_le (show 0 ≤ z by omega)
    refine (new_at n w P 0 0 hp (by omega) (by omega)).mono ?_
    rintro e w' ⟨D, L, M, rfl, _, hb, _⟩
    exact ⟨.inr ⟨D, rfl, by omega, by omega⟩, hb.out⟩
set_option maxRecDepth 100000 in
set_option maxHeartbeats 4000000 in
theorem play_out (a b : Int) (la : Option Addr) (A : List Da) (cap : Nat) (w : World) (hn : A.length ≤ maxLen) (ha : DasAt w la A) (hg : greatB A = false) (h1 : a ≤ 40 ∨ 4096 < a) (h2 : b ≤ 40 ∨ 4096 < b) (ho : (a < 1 ∨ 4096 < a) ∨ (b < 1 ∨ 4096 < b)) :
    Calls Try.prog 3 #[.int .i64 a, .int .i64 b, .slice la A.length cap] w fun e w' => e = .returned (.bool true) ∧ Below w.heap.size w w' := by
  have KG := Lib.hid (great_any la A cap w hn ha)
  have KA := Lib.hid (awake_any w)
  rw [hg] at KG
  clear ha hg
  have cA : (a < 1 ∧ a ≤ 40) ∨ (4096 < a ∧ 40 < a ∧ 1 ≤ a) ∨ (1 ≤ a ∧ a ≤ 40 ∧ a ≤ 4096) := by omega
  have cB : (b < 1 ∧ b ≤ 40) ∨ (4096 < b ∧ 40 < b ∧ 1 ≤ b) ∨ (1 ≤ b ∧ b ≤ 40 ∧ b ≤ 4096) := by omega
  have HO := Lib.hid ho
  clear h1 h2 ho
  rcases cA with ⟨a1, a2⟩ | ⟨a1, a2, a3⟩ | ⟨a1, a2, a3⟩ <;> rcases cB with ⟨b1, b2⟩ | ⟨b1, b2, b3⟩ | ⟨b1, b2, b3⟩
  all_goals
    go_enter Try.func3, Try.ntmps3
    go_wp2_with fail
    refine KG.out.mono ?_
    rintro e w1 ⟨rfl, rfl⟩
    go_wp2_with fail
    refine KA.out.mono ?_
    rintro e w1 ⟨rfl, hb⟩
    have HB1 := Lib.hid hb
    have hs1 := hb.size
    clear hb KA KG
    have PW : PowAt (w1.alloc (.cells #[.bool false, .int .i64 0, .bool false, .int .i64 0] 27)) w1.heap.size 0 0 :=
      ⟨new_cell rfl rfl, new_cell rfl rfl, new_cell rfl rfl, new_cell rfl rfl, fun i => World.frozen?_alloc_at _ _ _ _ rfl⟩
    have HB2 := Lib.hid (HB1.out.alloc hs1 (.cells #[.bool false, .int .i64 0, .bool false, .int .i64 0] 27))
    have KN := Lib.hid (fun z W (hW : Below (w1.alloc (.cells #[.bool false, .int .i64 0, .bool false, .int .i64 0] 27)).heap.size (w1.alloc (.cells #[.bool false, .int .i64 0, .bool false, .int .i64 0] 27)) W) =>
      new_z z W w1.heap.size ⟨keep_cell hW PW.p0, keep_cell hW PW.p1, keep_cell hW PW.p2, keep_cell hW PW.p3, fun i => (hW.frozen (p := ⟨w1.heap.size, i, none⟩) (block_lt (p := ⟨w1.heap.size, 0, none⟩) PW.p0)).trans (PW.pf i)⟩)
    clear PW HB1
    go_upto_region 4 with fail
    generalize w1.alloc (.cells #[.bool false, .int .i64 0, .bool false, .int .i64 0] 27) = w2 at *
    generalize w1.heap.size = P at *
    clear hs1
    go_wp2_with fail
    refine (KN.out _ _ (Below.refl _ _)).mono ?_
    rintro e w3 ⟨hx, hb3⟩
    have HB3 := Lib.hid hb3
    clear hb3
    rcases hx with ⟨rfl, c1⟩ | ⟨D, rfl, c1, c2⟩
    all_goals try (exfalso; omega)
    all_goals
      go_wp2_with fail
      refine (KN.out _ _ HB3.out).mono ?_
      rintro e w4 ⟨hx, hb4⟩
      have HB4 := Lib.hid (HB2.out.trans ((HB3.out.trans (hb4.mono HB3.out.size)).mono HB2.out.size))
      clear hb4
      rcases hx with ⟨rfl, c3⟩ | ⟨E, rfl, c3, c4⟩
      all_goals try (exfalso; omega)
      all_goals try (exfalso; have := HO.out; omega)
      all_goals
        go_wp2
        go_ret
        exact ⟨rfl, HB4.out⟩
end Go.Proofs.Ytobgopiadfinbaa
