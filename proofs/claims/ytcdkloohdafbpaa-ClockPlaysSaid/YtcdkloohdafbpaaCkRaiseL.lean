/-
  THE CONTRACT OF a clock's Raise.
-/
import Derived.Test.YtcdkloohdafbpaaCkRaise
namespace Go.Proofs.Ytcdkloohdafbpaa
open Go.RowKit
def raiseL (z : Int) (ss : List Int) (l : List Int) : List Int := l.foldl (fun s i => s.set i.toNat (max (s.getD i.toNat 0) z)) ss
theorem raiseL_len (z : Int) (ss l : List Int) : (raiseL z ss l).length = ss.length := by
  unfold raiseL
  induction l generalizing ss with
  | nil => rfl
  | cons x l ih => rw [List.foldl_cons, ih]; simp
theorem raiseL_snoc (z : Int) (ss l : List Int) (x : Int) : raiseL z ss (l ++ [x]) = (raiseL z ss l).set x.toNat (max ((raiseL z ss l).getD x.toNat 0) z) := by
  unfold raiseL; rw [List.foldl_append]; rfl
def nums0 (n : Nat) : List Int := (List.range n).map fun i : Nat => (i : Int)
theorem nums0_succ (n : Nat) : nums0 (n + 1) = nums0 n ++ [(n : Int)] := by unfold nums0; rw [List.range_succ, List.map_append]; rfl
section
variable {W : World} {C S P T n k : Nat} {ss : List Int} {fp ft : Int → Int} {top : Int}
theorem raise_no (h : ClockAt W C S P T n k ss fp ft top) (z : Int) (a : Option Addr) (l : List Int) (cap : Nat) (hl : l.length ≤ maxLen) (ha : IntsAt W a l) (hno : (hasL n l && mayB z) = false) :
    Calls Try.prog 22 #[.pointer (some ⟨C, 0, none⟩), .int .i64 z, .slice a l.length cap] W fun e w' => e = .returned (.int .i64 1) ∧ W = w' := by
  have KH := Lib.hid (has_any h a l cap hl ha)
  have KY := Lib.hid (may_any z W)
  clear h hl ha
  cases hq : hasL n l with
  | false =>
    rw [hq] at KH
    clear hno hq
    go_enter Try.func22, Try.ntmps22
    go_wp2_with fail
    refine KH.out.mono ?_
    rintro e w1 ⟨rfl, rfl⟩
    go_wp2
    go_ret
    exact ⟨rfl, rfl⟩
  | true =>
    rw [hq] at KH hno
    have hz : mayB z = false := by simpa using hno
    rw [hz] at KY
    clear hno hq hz
    go_enter Try.func22, Try.ntmps22
    go_wp2_with fail
    refine KH.out.mono ?_
    rintro e w1 ⟨rfl, rfl⟩
    go_wp2_with fail
    refine KY.out.mono ?_
    rintro e w1 ⟨rfl, rfl⟩
    go_wp2
    go_ret
    exact ⟨rfl, rfl⟩
set_option maxHeartbeats 2000000 in
theorem raise_list (h : ClockAt W C S P T n k ss fp ft top) (z : Int) (hz : Okay z) (a : Option Addr) (l : List Int) (cap : Nat) (hl : l.length ≤ maxLen) (hw : Ints64 l) (ha : ∀ W', Fr C S P T W W' → IntsAt W' a l) (hq : hasL n l = true) (h0 : 0 < l.length) :
    Calls Try.prog 22 #[.pointer (some ⟨C, 0, none⟩), .int .i64 z, .slice a l.length cap] W fun e w' => e = .returned (.int .i64 0) ∧ ClockAt w' C S P T n k (raiseL z ss l) fp ft (max top z) ∧ Fr C S P T W w' := by
  have KH := Lib.hid (has_any h a l cap hl (ha W (Fr.refl W)))
  rw [hq] at KH
  have KY := Lib.hid (may_any z W)
  rw [mayB_iff.2 hz] at KY
  have HZ := Lib.hid hz; clear hz
  have HA := Lib.hid ha; clear ha
  have HW := Lib.hid hw; clear hw
  have HQ : Hid (∀ x, x ∈ l → ∃ i : Nat, x = (i : Int) ∧ i < n) := fun x hx => by
    unfold hasL at hq
    obtain ⟨q0, q1⟩ := hasB_iff.1 (List.all_eq_true.1 hq x hx)
    obtain ⟨i, rfl⟩ := Int.eq_ofNat_of_zero_le q0
    exact ⟨i, rfl, by omega⟩
  unfold maxLen at hl
  have CL : Hid (ClockAt W C S P T n k (raiseL z ss (l.take 0)) fp ft top) := by rw [List.take_zero]; exact h
  have FR : Hid (Fr C S P T W W) := Fr.refl W
  have hne : ((l.length : Int) == 0) = false := by rw [beq_eq_false_iff_ne]; omega
  clear h hq
  go_enter Try.func22, Try.ntmps22
  go_wp2_with fail
  refine KH.out.mono ?_
  rintro e w1 ⟨rfl, rfl⟩
  go_wp2_with fail
  refine KY.out.mono ?_
  rintro e w1 ⟨rfl, rfl⟩
  go_wp2
  go_loopw [37] (fun i wr => ∃ j : Nat, j ≤ l.length ∧ i = .int .i64 j ∧ Hid (ClockAt wr C S P T n k (raiseL z ss (l.take j)) fp ft top) ∧ Hid (Fr C S P T W wr)) (fun i _ => l.length - (intOf i).toNat)
  case atStart => exact ⟨0, Nat.zero_le _, rfl, CL, FR⟩
  case round =>
    obtain ⟨j, hj, rfl, cl, fr⟩ := hrel
    clear CL FR KH KY
    by_cases hlt : j < l.length
    · obtain ⟨b, off, rfl, hc⟩ := (HA.out _ fr.out).cell hlt
      obtain ⟨i, hi, hin⟩ := HQ.out (l.getD j 0) (by rw [List.getD_eq_getElem?_getD, List.getElem?_eq_getElem hlt]; exact List.getElem_mem _)
      have KS := Lib.hid (raise_any cl.out z HZ.out i hin)
      have hd : raiseL z ss (l.take (j + 1)) = (raiseL z ss (l.take j)).set i (max ((raiseL z ss (l.take j)).getD i 0) z) := by rw [take_one l j hlt, raiseL_snoc, hi, Int.toNat_natCast]
      have HD := Lib.hid hd; clear hd
      rw [hi] at hc
      go_wp2_with fail
      refine KS.out.mono ?_
      rintro e w2 ⟨rfl, h6, h7⟩
      have cl1 : Hid (ClockAt w2 C S P T n k (raiseL z ss (l.take (j + 1))) fp ft top) := by rw [HD.out]; exact h6
      have fr1 := Lib.hid (fr.out.trans h7); clear h6 h7
      go_wp2
      go_round
      case rel => exact ⟨j + 1, by omega, by go_num, cl1, fr1⟩
      case measure => simp [intOf]; omega
    · have hje : j = l.length := by omega
      subst hje
      rw [List.take_length] at cl
      go_wp2_with fail
      refine (meet_any cl.out z HZ.out).mono ?_
      rintro e w2 ⟨rfl, h6, h7⟩
      have cl1 := Lib.hid h6; have fr1 := Lib.hid (fr.out.trans h7); clear h6 h7
      go_wp2
      go_ret
      exact ⟨rfl, cl1.out, fr1.out⟩
set_option maxHeartbeats 2000000 in
theorem raise_all (h : ClockAt W C S P T n k ss fp ft top) (z : Int) (hz : Okay z) (a : Option Addr) (cap : Nat) :
    Calls Try.prog 22 #[.pointer (some ⟨C, 0, none⟩), .int .i64 z, .slice a 0 cap] W fun e w' => e = .returned (.int .i64 0) ∧ ClockAt w' C S P T n k (raiseL z ss (nums0 n)) fp ft (max top z) ∧ Fr C S P T W w' := by
  have KH := Lib.hid (has_any h a [] cap (by simp) (.inl rfl))
  have KY := Lib.hid (may_any z W)
  rw [mayB_iff.2 hz] at KY
  have HZ := Lib.hid hz; clear hz
  have CL : Hid (ClockAt W C S P T n k (raiseL z ss (nums0 0)) fp ft top) := h
  have FR : Hid (Fr C S P T W W) := Fr.refl W
  obtain ⟨n0, n8⟩ := h.n1
  have c1 := h.c1
  clear h
  go_enter Try.func22, Try.ntmps22
  go_wp2_with fail
  refine KH.out.mono ?_
  rintro e w1 ⟨rfl, rfl⟩
  go_wp2_with fail
  refine KY.out.mono ?_
  rintro e w1 ⟨rfl, rfl⟩
  go_wp2
  go_loopw [27] (fun i wr => ∃ j : Nat, j ≤ n ∧ i = .int .i64 j ∧ Hid (ClockAt wr C S P T n k (raiseL z ss (nums0 j)) fp ft top) ∧ Hid (Fr C S P T W wr)) (fun i _ => n - (intOf i).toNat)
  case atStart => exact ⟨0, Nat.zero_le _, rfl, CL, FR⟩
  case round =>
    obtain ⟨j, hj, rfl, cl, fr⟩ := hrel
    clear CL FR KH KY
    by_cases hlt : j < n
    · have KS := Lib.hid (raise_any cl.out z HZ.out j hlt)
      have hd : raiseL z ss (nums0 (j + 1)) = (raiseL z ss (nums0 j)).set j (max ((raiseL z ss (nums0 j)).getD j 0) z) := by rw [nums0_succ, raiseL_snoc, Int.toNat_natCast]
      have HD := Lib.hid hd; clear hd
      go_wp2_with fail
      refine KS.out.mono ?_
      rintro e w2 ⟨rfl, h6, h7⟩
      have cl1 : Hid (ClockAt w2 C S P T n k (raiseL z ss (nums0 (j + 1))) fp ft top) := by rw [HD.out]; exact h6
      have fr1 := Lib.hid (fr.out.trans h7); clear h6 h7
      go_wp2
      go_round
      case rel => exact ⟨j + 1, by omega, by go_num, cl1, fr1⟩
      case measure => simp [intOf]; omega
    · have hje : j = n := by omega
      subst hje
      go_wp2
      refine wp_loop_rounds 1 ?_
      rw [rounds_succ]
      go_wp2_with fail
      refine (meet_any cl.out z HZ.out).mono ?_
      rintro e w2 ⟨rfl, h6, h7⟩
      have cl1 := Lib.hid h6; have fr1 := Lib.hid (fr.out.trans h7); clear h6 h7
      go_wp2
      go_ret
      exact ⟨rfl, cl1.out, fr1.out⟩
end
end Go.Proofs.Ytcdkloohdafbpaa
