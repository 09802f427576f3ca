/-
  awake OF LAW 16: the document's example.
-/
import Derived.Test.YtjjbdkgnkieliaaSpPlace
namespace Go.Proofs.Ytjjbdkgnkieliaa
open Go.RowKit
def bk0 : Book := (fun _ _ => 0, fun _ => 0)
def bk1 : Book := takeB 1 bk0 [4]
theorem bk1_1 : bk1.1 1 4 = 1 := by decide
theorem bk1_2 : bk1.1 2 4 = 0 := by decide
theorem bk1_a : bk1.2 4 = 1 := by decide
set_option maxRecDepth 100000 in
set_option maxHeartbeats 4000000 in
theorem awake_any (W : World) : Calls Try.prog 8 #[] W fun e w' => e = .returned (.bool true) ∧ Below W.heap.size W w' := by
  have KN := Lib.hid (new_any W)
  go_enter Try.func8, Try.ntmps8
  go_wp2_with fail
  refine KN.out.mono ?_
  rintro x w1 ⟨S, T, A, rfl, hs, hb, hS, hT, hA⟩
  clear KN
  have ha := (Below.refl w1.heap.size w1).alloc (Nat.le_refl _) (.cells #[.int .i64 4] 3)
  have l1 := hs.out.lts
  have s2 := hs.out.below ha
  have KT := Lib.hid (take_any (b := bk0) s2 1 (by decide) (some ⟨w1.heap.size, 0, none⟩) [4] 1 (one_int w1 4 3) (fun i hi => by
    have h0 : i = 0 := by simp at hi; exact hi
    subst h0; decide) (.inr fun y e => by
    injection e with e; subst e
    exact ⟨by show w1.heap.size < _; rw [World.size_alloc]; omega, by show w1.heap.size ≠ _; omega, by show w1.heap.size ≠ _; omega, fun t e => by cases e⟩) (by decide))
  have B1 := Lib.hid (hb.out.trans (ha.mono hb.out.size))
  clear hs hb ha l1 s2
  go_wp2_with fail
  refine KT.out.mono ?_
  rintro x w2 ⟨rfl, hb2⟩
  obtain ⟨o2, s3, f3⟩ := hb2.out
  have B2 := Lib.hid (B1.out.trans (f3.below B1.out.size hT hA (fun t e h => by cases h)))
  change SpIn w2 S T A (0 + 3 * 1) o2 bk1.1 bk1.2 at s3
  have S3 := Lib.hid s3
  clear KT B1 hb2 s3 f3
  have KP := Lib.hid (page_any 4 7 (by decide) w2)
  go_wp2_with fail
  refine KP.out.mono ?_
  rintro x w10 ⟨ca, cc, rfl, hp⟩
  have SP := Lib.hid (S3.out.below hp)
  have BP := Lib.hid (B2.out.trans (hp.mono B2.out.size))
  have KM := may_any SP.out (by decide) 2 4 0 ca 7 cc (by decide) (by decide) (by decide)
  rw [bk1_2, bk1_a] at KM
  have KM : Hid (Calls Try.prog 15 #[.pointer (some ⟨S, 0, none⟩), .int .i64 2, .agg #[.int .i64 4, .int .i64 0, .slice ca 7 cc]] w10 fun e w' => e = .returned (.bool false) ∧ Below w10.heap.size w10 w') := KM
  clear KP hp S3 B2
  go_wp2_with fail
  refine KM.out.mono ?_
  rintro x w11 ⟨rfl, hm⟩
  have S4 := Lib.hid (SP.out.below hm)
  have B4 := Lib.hid (BP.out.trans (hm.mono BP.out.size))
  clear KM hm SP BP
  have KP := Lib.hid (page_any 4 7 (by decide) w11)
  go_wp2_with fail
  refine KP.out.mono ?_
  rintro x w12 ⟨ca, cc, rfl, hp⟩
  have SP := Lib.hid (S4.out.below hp)
  have BP := Lib.hid (B4.out.trans (hp.mono B4.out.size))
  have KM := may_any SP.out (by decide) 1 4 0 ca 7 cc (by decide) (by decide) (by decide)
  rw [bk1_1, bk1_a] at KM
  have KM : Hid (Calls Try.prog 15 #[.pointer (some ⟨S, 0, none⟩), .int .i64 1, .agg #[.int .i64 4, .int .i64 0, .slice ca 7 cc]] w12 fun e w' => e = .returned (.bool true) ∧ Below w12.heap.size w12 w') := KM
  clear KP hp S4 B4
  go_wp2_with fail
  refine KM.out.mono ?_
  rintro x w13 ⟨rfl, hm⟩
  have S5 := Lib.hid (SP.out.below hm)
  have B5 := Lib.hid (BP.out.trans (hm.mono BP.out.size))
  clear KM hm SP BP
  have KP := Lib.hid (page_any 4 7 (by decide) w13)
  go_wp2_with fail
  refine KP.out.mono ?_
  rintro x w14 ⟨ca, cc, rfl, hp⟩
  have SP := Lib.hid (S5.out.below hp)
  have BP := Lib.hid (B5.out.trans (hp.mono B5.out.size))
  have KM := room_any SP.out (by decide) 1 4 0 ca 7 cc (by decide) (by decide) (by decide)
  rw [bk1_1, bk1_a] at KM
  have KM : Hid (Calls Try.prog 14 #[.pointer (some ⟨S, 0, none⟩), .int .i64 1, .agg #[.int .i64 4, .int .i64 0, .slice ca 7 cc]] w14 fun e w' => e = .returned (.int .i64 1) ∧ Below w14.heap.size w14 w') := KM
  clear KP hp S5 B5
  go_wp2_with fail
  refine KM.out.mono ?_
  rintro x w15 ⟨rfl, hm⟩
  have S6 := Lib.hid (SP.out.below hm)
  have B6 := Lib.hid (BP.out.trans (hm.mono BP.out.size))
  clear KM hm SP BP
  have KP := Lib.hid (page_any 4 7 (by decide) w15)
  go_wp2_with fail
  refine KP.out.mono ?_
  rintro x w16 ⟨ca, cc, rfl, hp⟩
  have SP := Lib.hid (S6.out.below hp)
  have BP := Lib.hid (B6.out.trans (hp.mono B6.out.size))
  have KM := room_any SP.out (by decide) 2 4 0 ca 7 cc (by decide) (by decide) (by decide)
  rw [bk1_2, bk1_a] at KM
  have KM : Hid (Calls Try.prog 14 #[.pointer (some ⟨S, 0, none⟩), .int .i64 2, .agg #[.int .i64 4, .int .i64 0, .slice ca 7 cc]] w16 fun e w' => e = .returned (.int .i64 0) ∧ Below w16.heap.size w16 w') := KM
  clear KP hp S6 B6
  go_wp2_with fail
  refine KM.out.mono ?_
  rintro x w17 ⟨rfl, hm⟩
  have S7 := Lib.hid (SP.out.below hm)
  have B7 := Lib.hid (BP.out.trans (hm.mono BP.out.size))
  clear KM hm SP BP
  have KA := Lib.hid (place_ab w17)
  go_wp2_with fail
  refine KA.out.mono ?_
  rintro x w30 ⟨rfl, rfl⟩
  clear KA
  go_wp2
  go_ret
  exact ⟨rfl, B7.out⟩
end Go.Proofs.Ytjjbdkgnkieliaa
