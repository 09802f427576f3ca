/-
  THE CONTRACTS OF a clock's has, Stream, Peek.
-/
import Derived.Test.YtcdkloohdafbpaaCkBase
namespace Go.Proofs.Ytcdkloohdafbpaa
open Go.RowKit

def hasB (n : Nat) (i : Int) : Bool := decide (0 ≤ i) && decide (i < (n : Int))
theorem hasB_iff {n : Nat} {i : Int} : hasB n i = true ↔ 0 ≤ i ∧ i < (n : Int) := by unfold hasB; simp
def hasL (n : Nat) (l : List Int) : Bool := l.all (hasB n)
theorem hasL_no {n : Nat} {l : List Int} {k : Nat} (hk : k < l.length) (h : hasB n (l.getD k 0) = false) : hasL n l = false := by
  unfold hasL
  rw [List.all_eq_false]
  refine ⟨l.getD k 0, ?_, by rw [h]; simp⟩
  rw [List.getD_eq_getElem?_getD, List.getElem?_eq_getElem hk]; exact List.getElem_mem _
theorem hasL_all {n : Nat} {l : List Int} (h : ∀ j, j < l.length → hasB n (l.getD j 0) = true) : hasL n l = true := by
  unfold hasL
  rw [List.all_eq_true]
  intro x hx
  obtain ⟨j, hj, rfl⟩ := List.getElem_of_mem hx
  have := h j hj
  rwa [List.getD_eq_getElem?_getD, List.getElem?_eq_getElem hj] at this
section
variable {W : World} {C S P T n k : Nat} {ss : List Int} {fp ft : Int → Int} {top : Int}
set_option maxHeartbeats 1000000 in
theorem has_any (h : ClockAt W C S P T n k ss fp ft top) (a : Option Addr) (l : List Int) (cap : Nat) (hl : l.length ≤ maxLen) (ha : IntsAt W a l) :
    Calls Try.prog 26 #[.pointer (some ⟨C, 0, none⟩), .slice a l.length cap] W fun e w' => e = .returned (.bool (hasL n l)) ∧ W = w' := by
  unfold maxLen at hl
  have KM := Lib.hid (made_any h)
  have h1 := h.c1
  have HA := Lib.hid ha; clear ha h
  go_enter Try.func26, Try.ntmps26
  go_wp2_with fail
  refine KM.out.mono ?_
  rintro x w1 ⟨rfl, rfl⟩
  go_wp2
  go_loop [12] (fun i => ∃ j : Nat, j ≤ l.length ∧ i = .int .i64 j ∧ Hid (∀ m, m < j → hasB n (l.getD m 0) = true)) (fun i => l.length - (intOf i).toNat)
  case atStart => exact ⟨0, Nat.zero_le _, rfl, fun m hm => by omega⟩
  case round =>
    obtain ⟨j, hj, rfl, hso⟩ := hrel
    by_cases hlt : j < l.length
    · obtain ⟨b, off, rfl, hc⟩ := HA.out.cell hlt
      have HN := Lib.hid (fun h => hasL_no (n := n) hlt h)
      have HY : Hid (hasB n (l.getD j 0) = true → ∀ m, m < j + 1 → hasB n (l.getD m 0) = true) := fun hz m hm => by
        rcases Nat.lt_or_ge m j with h' | h'
        · exact hso.out m h'
        · have : m = j := by omega
          rw [this]; exact hz
      generalize l.getD j 0 = z at hc HN HY
      have HB : Hid (hasB n z = (decide (0 ≤ z) && decide (z < (n : Int)))) := rfl
      by_cases h0 : 0 ≤ z
      · by_cases hz : z < (n : Int)
        · have HT : Hid (∀ m, m < j + 1 → hasB n (l.getD m 0) = true) := HY.out (by rw [HB.out, decide_eq_true h0, decide_eq_true hz]; rfl)
          go_wp2
          go_round
          case rel => exact ⟨j + 1, by omega, by go_num, HT⟩
          case measure => simp [intOf]; omega
        · have HF := Lib.hid (HN.out (by rw [HB.out, decide_eq_false hz]; simp))
          have hz : (n : Int) ≤ z := by omega
          go_wp2
          go_ret
          exact ⟨ret_bool HF.out.symm, rfl⟩
      · have HF := Lib.hid (HN.out (by rw [HB.out, decide_eq_false h0]; rfl))
        have h0 : z < 0 := by omega
        go_wp2
        go_ret
        exact ⟨ret_bool HF.out.symm, rfl⟩
    · have HT := Lib.hid (hasL_all (n := n) (fun m hm => hso.out m (by omega)))
      go_wp2
      go_ret
      exact ⟨ret_bool HT.out.symm, rfl⟩
theorem has_one (h : ClockAt W C S P T n k ss fp ft top) (i : Int) (ty : TypeId) :
    Calls Try.prog 26 #[.pointer (some ⟨C, 0, none⟩), .slice (some ⟨W.heap.size, 0, none⟩) 1 1] (W.alloc (.cells #[.int .i64 i] ty)) fun e w' => e = .returned (.bool (hasB n i)) ∧ W.alloc (.cells #[.int .i64 i] ty) = w' := by
  refine (has_any (h.below ((Below.refl _ _).alloc (Nat.le_refl _) _)) (some ⟨W.heap.size, 0, none⟩) [i] 1 (by simp [maxLen]) (one_int W i ty)).mono ?_
  rintro e w' ⟨rfl, rfl⟩
  exact ⟨ret_bool (by unfold hasL; simp), rfl⟩
/-- A stream's time. -/
def streamV (n : Nat) (ss : List Int) (i : Int) : Int := if hasB n i then ss.getD i.toNat 0 else 0
theorem streamV_ok (h : ClockAt W C S P T n k ss fp ft top) (i : Int) : Okay (streamV n ss i) := by
  unfold streamV; split
  · exact h.os _
  · exact ⟨by omega, by omega⟩
theorem stream_any (h : ClockAt W C S P T n k ss fp ft top) (i : Int) :
    Calls Try.prog 15 #[.pointer (some ⟨C, 0, none⟩), .int .i64 i] W fun e w' => e = .returned (.int .i64 (streamV n ss i)) ∧ Below W.heap.size W w' := by
  have KH := Lib.hid (has_one h i 3)
  have h' := h.below ((Below.refl _ _).alloc (o := .cells #[.int .i64 i] 3) (Nat.le_refl _))
  have hb : Below W.heap.size W (W.alloc (.cells #[.int .i64 i] 3)) := (Below.refl _ _).alloc (Nat.le_refl _) _
  have HV : Hid (streamV n ss i = if hasB n i then ss.getD i.toNat 0 else 0) := rfl
  have HB : Hid (hasB n i = true ↔ 0 ≤ i ∧ i < (n : Int)) := hasB_iff
  obtain ⟨n0, n8⟩ := h.n1
  have h1 := h'.c1
  cases hz : hasB n i with
  | true =>
    rw [hz] at KH
    obtain ⟨i0, i1⟩ := HB.out.1 hz
    obtain ⟨j, rfl⟩ := Int.eq_ofNat_of_zero_le i0
    have hc := h'.sc j (by omega)
    have HR : Hid (streamV n ss (j : Int) = ss.getD j 0) := by rw [Hid, HV.out, hz, if_pos rfl, Int.toNat_natCast]
    generalize ss.getD j 0 = z at hc HR
    clear h h' hz HB HV
    go_enter Try.func15, Try.ntmps15
    go_wp2_with fail
    refine KH.out.mono ?_
    rintro x w1 ⟨rfl, rfl⟩
    go_wp2
    go_ret
    exact ⟨ret_i64 HR.out.symm, hb⟩
  | false =>
    rw [hz] at KH
    have HR : Hid (streamV n ss i = 0) := by rw [Hid, HV.out, hz]; rfl
    clear h h' hz HB HV
    go_enter Try.func15, Try.ntmps15
    go_wp2_with fail
    refine KH.out.mono ?_
    rintro x w1 ⟨rfl, rfl⟩
    go_wp2
    go_ret
    exact ⟨ret_i64 HR.out.symm, hb⟩
/-- What the next tick is. -/
def nextV (n : Nat) (ss : List Int) (fp ft : Int → Int) (s p t : Int) : Int := max (max (streamV n ss s) (fp p)) (ft t) + 1
def peekN (n : Nat) (ss : List Int) (fp ft : Int → Int) (s p t : Int) : Int := if hasB n s then (if nextV n ss fp ft s p t ≤ 4611686018427387903 then nextV n ss fp ft s p t else 0) else 0
def peekE (n : Nat) (ss : List Int) (fp ft : Int → Int) (s p t : Int) : Int := if hasB n s then (if nextV n ss fp ft s p t ≤ 4611686018427387903 then 0 else 3) else 1
theorem ret_two {a b c d : Int} (h : a = b) (h' : c = d) : Ending.returned (.tuple #[.int .i64 a, .int .i64 c]) = .returned (.tuple #[.int .i64 b, .int .i64 d]) := by rw [h, h']
theorem has_one' (h : ClockAt W C S P T n k ss fp ft top) (i : Int) (ty : TypeId) : ∀ W', Below W.heap.size W W' →
    Calls Try.prog 26 #[.pointer (some ⟨C, 0, none⟩), .slice (some ⟨W'.heap.size, 0, none⟩) 1 1] (W'.alloc (.cells #[.int .i64 i] ty)) fun e w' => e = .returned (.bool (hasB n i)) ∧ Below W.heap.size W w' := fun W' hW =>
  (has_one (h.below hW) i ty).mono fun _ _ ⟨a, b⟩ => ⟨a, by rw [← b]; exact hW.alloc hW.size _⟩
theorem stream_any' (h : ClockAt W C S P T n k ss fp ft top) (i : Int) : ∀ W', Below W.heap.size W W' →
    Calls Try.prog 15 #[.pointer (some ⟨C, 0, none⟩), .int .i64 i] W' fun e w' => e = .returned (.int .i64 (streamV n ss i)) ∧ Below W.heap.size W w' := fun _ hW =>
  (stream_any (h.below hW) i).mono fun _ _ ⟨a, b⟩ => ⟨a, hW.trans (b.mono hW.size)⟩
theorem most2' (B : Nat) (W0 : World) (x y z : Int) (T : TypeId) (W : World) (hW : Below B W0 W) (hB : B ≤ W.heap.size) : Calls Try.prog 28 #[.int .i64 x, .slice (some ⟨W.heap.size, 0, none⟩) 2 2] (W.alloc (.cells #[.int .i64 y, .int .i64 z] T)) fun e w' => e = .returned (.int .i64 (max (max x y) z)) ∧ Below B W0 w' :=
  (most2 x y z T W).mono fun _ _ ⟨a, b⟩ => ⟨a, by rw [← b]; exact hW.alloc hB _⟩
theorem most1' (B : Nat) (W0 : World) (x y : Int) (T : TypeId) (W : World) (hW : Below B W0 W) (hB : B ≤ W.heap.size) : Calls Try.prog 28 #[.int .i64 x, .slice (some ⟨W.heap.size, 0, none⟩) 1 1] (W.alloc (.cells #[.int .i64 y] T)) fun e w' => e = .returned (.int .i64 (max x y)) ∧ Below B W0 w' :=
  (most1 x y T W).mono fun _ _ ⟨a, b⟩ => ⟨a, by rw [← b]; exact hW.alloc hB _⟩
set_option maxHeartbeats 1000000 in
theorem peek_any (h : ClockAt W C S P T n k ss fp ft top) (s p t : Int) (hp : (Lit.int .i64 p).wf = true) (ht : (Lit.int .i64 t).wf = true) :
    Calls Try.prog 19 #[.pointer (some ⟨C, 0, none⟩), .int .i64 s, .int .i64 p, .int .i64 t] W fun e w' => e = .returned (.tuple #[.int .i64 (peekN n ss fp ft s p t), .int .i64 (peekE n ss fp ft s p t)]) ∧ Below W.heap.size W w' := by
  have KH := Lib.hid (has_one' h s 3)
  have KS := Lib.hid (stream_any' h s)
  have KP := Lib.hid (fun W' (hW : Below W.heap.size W W') => page_any (h.below hW) p hp)
  have KT := Lib.hid (fun W' (hW : Below W.heap.size W W') => txn_any (h.below hW) t ht)
  obtain ⟨a0, a1⟩ := streamV_ok h s
  obtain ⟨b0, b1⟩ := h.op p
  obtain ⟨c0, c1⟩ := h.oy t
  have HN : Hid (peekN n ss fp ft s p t = if hasB n s then (if nextV n ss fp ft s p t ≤ 4611686018427387903 then nextV n ss fp ft s p t else 0) else 0) := rfl
  have HE : Hid (peekE n ss fp ft s p t = if hasB n s then (if nextV n ss fp ft s p t ≤ 4611686018427387903 then 0 else 3) else 1) := rfl
  have HX : Hid (nextV n ss fp ft s p t = max (max (streamV n ss s) (fp p)) (ft t) + 1) := rfl
  generalize peekN n ss fp ft s p t = rN at HN ⊢
  generalize peekE n ss fp ft s p t = rE at HE ⊢
  generalize nextV n ss fp ft s p t = x at HN HE HX
  generalize streamV n ss s = sv at HX KS a0 a1
  generalize fp p = pv at HX KP b0 b1
  generalize ft t = tv at HX KT c0 c1
  have KM := Lib.hid (fun W' (hW : Below W.heap.size W W') => most2' W.heap.size W sv pv tv 3 W' hW hW.size)
  obtain ⟨m, hm⟩ : ∃ m, m = max (max sv pv) tv := ⟨_, rfl⟩
  have m0 : 0 ≤ m := by omega
  have m1 : m ≤ 4611686018427387903 := by omega
  rw [← hm] at HX KM
  clear hm a0 a1 b0 b1 c0 c1
  generalize hasB n s = q at KH HN HE
  have hbr := Below.refl W.heap.size W
  have HB := Lib.hid hbr; clear hbr h
  cases q with
  | false =>
    have HN1 := Lib.hid (HN.out.trans (by rfl : _ = (0 : Int)))
    have HE1 := Lib.hid (HE.out.trans (by rfl : _ = (1 : Int)))
    go_enter Try.func19, Try.ntmps19
    go_wp2_with fail
    refine (KH.out _ HB.out).mono ?_
    rintro e w1 ⟨rfl, hb1⟩
    have HB := Lib.hid hb1; clear hb1
    go_wp2
    go_ret2
    exact ⟨ret_two HN1.out.symm HE1.out.symm, HB.out⟩
  | true =>
    by_cases hle : x ≤ 4611686018427387903
    · have HN1 : Hid (rN = x) := by rw [Hid, HN.out]; simp [hle]
      have HE1 : Hid (rE = 0) := by rw [Hid, HE.out]; simp [hle]
      have hx := HX.out
      subst hx
      have hle : m ≤ 4611686018427387902 := by omega
      go_enter Try.func19, Try.ntmps19
      go_wp2_with fail
      refine (KH.out _ HB.out).mono ?_
      rintro e w1 ⟨rfl, hb1⟩
      have HB := Lib.hid hb1; clear hb1
      go_wp2_with fail
      refine (KS.out _ HB.out).mono ?_
      rintro e w1 ⟨rfl, hb1⟩
      have HB := Lib.hid hb1; clear hb1
      go_wp2_with fail
      refine (KP.out _ HB.out).mono ?_
      rintro e w1 ⟨rfl, rfl⟩
      go_wp2_with fail
      refine (KT.out _ HB.out).mono ?_
      rintro e w1 ⟨rfl, rfl⟩
      go_wp2_with fail
      refine (KM.out _ HB.out).mono ?_
      rintro e w1 ⟨rfl, hb1⟩
      have HB := Lib.hid hb1; clear hb1
      go_wp2
      go_ret2
      exact ⟨ret_two HN1.out.symm HE1.out.symm, HB.out⟩
    · have HN1 : Hid (rN = 0) := by rw [Hid, HN.out]; simp [hle]
      have HE1 : Hid (rE = 3) := by rw [Hid, HE.out]; simp [hle]
      have hx := HX.out
      subst hx
      have hm : m = 4611686018427387903 := by omega
      subst hm
      go_enter Try.func19, Try.ntmps19
      go_wp2_with fail
      refine (KH.out _ HB.out).mono ?_
      rintro e w1 ⟨rfl, hb1⟩
      have HB := Lib.hid hb1; clear hb1
      go_wp2_with fail
      refine (KS.out _ HB.out).mono ?_
      rintro e w1 ⟨rfl, hb1⟩
      have HB := Lib.hid hb1; clear hb1
      go_wp2_with fail
      refine (KP.out _ HB.out).mono ?_
      rintro e w1 ⟨rfl, rfl⟩
      go_wp2_with fail
      refine (KT.out _ HB.out).mono ?_
      rintro e w1 ⟨rfl, rfl⟩
      go_wp2_with fail
      refine (KM.out _ HB.out).mono ?_
      rintro e w1 ⟨rfl, hb1⟩
      have HB := Lib.hid hb1; clear hb1
      go_wp2
      go_ret2
      exact ⟨ret_two HN1.out.symm HE1.out.symm, HB.out⟩
end
end Go.Proofs.Ytcdkloohdafbpaa
