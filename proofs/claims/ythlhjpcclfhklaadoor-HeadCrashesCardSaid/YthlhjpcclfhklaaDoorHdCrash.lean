/-
  HeadCrashes: the contracts that its walk meets.
-/
import Derived.Test.YthlhjpcclfhklaaDoorHdArgs
import Derived.Test.YthlhjpcclfhklaaDoorHdSaveB
import Derived.Test.YthlhjpcclfhklaaDoorHdAwake
namespace Go.Proofs.YthlhjpcclfhklaaDoor
open Go.RowKit
abbrev aggOf (q : Hd5) : Value := .agg #[.int .i64 q.1, .int .i64 q.2.1, .int .i64 q.2.2.1, .int .i64 q.2.2.2.1, .int .i64 q.2.2.2.2]
/-- A device that lost its power, or is to be crashed; a device that is up again. -/
def Fell (W : World) (D P L M : Nat) (now q : Hd5) : Prop := ∃ kk off uses armed left las f, Dv.DevAt W D P L M 2 kk off uses armed left las f ∧ (∀ z l, f z = some l → 0 ≤ z ∧ z < ((2 : Nat) : Int) ∧ l.length = 64) ∧ ∀ ks, Kp (Dv.keepLas f las ks) now ∨ Kp (Dv.keepLas f las ks) q
def Up (W : World) (D P L M : Nat) (now q : Hd5) : Prop := ∃ kk uses left las, Dv.DevAt W D P L M 2 kk false uses false left las (fun _ => none) ∧ (Kp las now ∨ Kp las q)
/-- A device that keeps a head, armed. -/
def Live (W : World) (D P L M : Nat) (left : Int) (b : Nat) (now : Hd5) : Prop := ∃ kk uses las, Dv.DevAt W D P L M 2 kk false uses true left las (fun _ => none) ∧ kk ≤ b ∧ (0 ≤ uses ∧ uses ≤ 2 * (b : Int)) ∧ Kp las now
section
variable {D P L M : Nat} {W : World}
theorem dev_len {n k : Nat} {off : Bool} {uses : Int} {armed : Bool} {left : Int} {las : List (List UInt8)} {f : Int → Option (List UInt8)} (h : Dv.DevAt W D P L M n k off uses armed left las f) : las.length = n := h.ll
theorem Up.below {X : World} {now q : Hd5} (h : Up W D P L M now q) (hb : Below W.heap.size W X) : Up X D P L M now q := by
  obtain ⟨kk, uses, left, las, hd, hk⟩ := h
  exact ⟨kk, uses, left, las, hd.below hb, hk⟩
theorem Fell.below {X : World} {now q : Hd5} (h : Fell W D P L M now q) (hb : Below W.heap.size W X) : Fell X D P L M now q := by
  obtain ⟨kk, off, uses, armed, left, las, f, hd, hk⟩ := h
  exact ⟨kk, off, uses, armed, left, las, f, hd.below hb, hk⟩
theorem Live.below {X : World} {left : Int} {b : Nat} {now : Hd5} (h : Live W D P L M left b now) (hb : Below W.heap.size W X) : Live X D P L M left b now := by
  obtain ⟨kk, uses, las, hd, hk⟩ := h
  exact ⟨kk, uses, las, hd.below hb, hk⟩
theorem Live.fell {left : Int} {b : Nat} {now : Hd5} (h : Live W D P L M left b now) : Fell W D P L M now now := by
  obtain ⟨kk, uses, las, hd, _, _, hk⟩ := h
  exact ⟨kk, false, uses, true, left, las, _, hd, fun z l e => (by cases e), fun ks => .inl (by rw [keep_none]; exact hk)⟩
theorem c_load {now q : Hd5} (h : Up W D P L M now q) (ht : Tab W) :
    Calls Tryd.prog 10 #[.pointer (some ⟨D, 0, none⟩), .int .i64 0] W fun x w' => ∃ g, (g = now ∨ g = q) ∧ x = .returned (.tuple #[aggOf g, .int .i64 0]) ∧ Below W.heap.size W w' := by
  obtain ⟨kk, uses, left, las, hd, hk⟩ := h
  have hl := load_any W hd 0 (by omega) (by omega) (fun z l e => by cases e) ht
  rcases hk with hk | hk
  · rw [load_kept hk] at hl
    exact hl.mono fun x w' hx => ⟨now, .inl rfl, hx.1, hx.2⟩
  · rw [load_kept hk] at hl
    exact hl.mono fun x w' hx => ⟨q, .inr rfl, hx.1, hx.2⟩
theorem c_crash {now q : Hd5} (h : Fell W D P L M now q) (ka : Option Addr) (ks : List Int) (c : Nat) (hl : ks.length ≤ 1000) (hw : ∀ z ∈ ks, (Lit.int .i64 z).wf = true) (hka : Dv.IntsIn W ka L ks) :
    Calls Tryd.prog 9 #[.pointer (some ⟨D, 0, none⟩), .slice ka ks.length c] W fun x w' => x = .returned (.tuple #[]) ∧ Up w' D P L M now q ∧ Dv.Fr3 P L M W w' := by
  obtain ⟨kk, off, uses, armed, left, las, f, hd, hf, hk⟩ := h
  refine (Dv.crash_fr (B := 0) hd hf ⟨Nat.zero_le _, Nat.zero_le _, Nat.zero_le _⟩ (Nat.zero_le _) ka ks c (by omega) hw hka).mono ?_
  rintro x w' ⟨rfl, hd2, _, hf2⟩
  exact ⟨rfl, ⟨kk, uses, left, _, hd2, hk ks⟩, hf2⟩
theorem c_save {left : Int} {b : Nat} {now : Hd5} (h : Live W D P L M left b now) (hb : b ≤ 1000) (hl : 1 < left ∧ left ≤ 100) (ht : Tab W) (e c st m : Int) (ho : hdOk now.1 e c st m = true) (ho2 : hdOk (now.1 + 1) e c st m = true) :
    Calls Tryd.prog 6 #[.pointer (some ⟨D, 0, none⟩), .int .i64 0, .agg #[.int .i64 now.1, .int .i64 e, .int .i64 c, .int .i64 st, .int .i64 m]] W
      fun x w' => x = .returned (.tuple #[.agg #[.int .i64 (now.1 + 1), .int .i64 e, .int .i64 c, .int .i64 st, .int .i64 m], .int .i64 0]) ∧ Live w' D P L M (left - 1 - 1) (b + 1) (now.1 + 1, e, c, st, m) ∧ Dv.Fr3 P L M W w' := by
  obtain ⟨kk, uses, las, hd, hk, hu, hp⟩ := h
  refine (save_yes W hd (by omega) (fun _ => ⟨by omega, by omega⟩) (by omega) 0 (by omega) (by omega) (fun z l e => by cases e) ht now.1 e c st m ho ho2).mono ?_
  rintro x w' ⟨rfl, las2, hd2, hl2, hf2⟩
  exact ⟨rfl, ⟨kk + 1, uses + 1 + 1, las2, hd2, by omega, by omega, hp.next (q := (now.1 + 1, e, c, st, m)) ho2 rfl hl2⟩, hf2⟩
theorem c_fail {left : Int} {b : Nat} {now : Hd5} (h : Live W D P L M left b now) (hb : b ≤ 1000) (hl : left = 0 ∨ left = 1) (ht : Tab W) (e c st m : Int) (ho : hdOk now.1 e c st m = true) (ho2 : hdOk (now.1 + 1) e c st m = true) :
    Calls Tryd.prog 6 #[.pointer (some ⟨D, 0, none⟩), .int .i64 0, .agg #[.int .i64 now.1, .int .i64 e, .int .i64 c, .int .i64 st, .int .i64 m]] W
      fun x w' => x = .returned (.tuple #[.agg #[.int .i64 0, .int .i64 0, .int .i64 0, .int .i64 0, .int .i64 0], .int .i64 6]) ∧ Fell w' D P L M now (now.1 + 1, e, c, st, m) ∧ Dv.Fr3 P L M W w' := by
  obtain ⟨kk, uses, las, hd, hk, hu, hp⟩ := h
  rcases hl with rfl | rfl
  · refine (save_last W hd (by omega) 0 (by omega) (by omega) ht now.1 e c st m ho ho2).mono ?_
    rintro x w' ⟨rfl, hd2, hf2⟩
    exact ⟨rfl, ⟨_, _, _, _, _, las, _, hd2, fun z l e => (by cases e), fun ks => .inl (by rw [keep_none]; exact hp)⟩, hf2⟩
  · refine (save_mid W hd (by omega) (by omega) 0 (by omega) (by omega) ht now.1 e c st m ho ho2).mono ?_
    rintro x w' ⟨rfl, hd2, hf2⟩
    exact ⟨rfl, ⟨_, _, _, _, _, las, looseOf (now.1 + 1, e, c, st, m), hd2, looseOf_ok ho2, fun ks => hp.crash (q := (now.1 + 1, e, c, st, m)) (dev_len hd) ho2 rfl ks⟩, hf2⟩
theorem arm_any {n k : Nat} {uses left : Int} {las : List (List UInt8)} {f : Int → Option (List UInt8)} {off armed : Bool} (h : Dv.DevAt W D P L M n k off uses armed left las f) (j : Int) (hj : 0 ≤ j ∧ j ≤ 1000) :
    Calls Tryd.prog 7 #[.pointer (some ⟨D, 0, none⟩), .int .i64 j] W fun e w' => e = .returned (.tuple #[]) ∧ Dv.DevAt w' D P L M n k off uses true j las f ∧ Dv.Fr3 P L M W w' := by
  have HA : Hid (Dv.DevAt ((W.setCell ⟨P, 2, none⟩ (.bool true)).setCell ⟨P, 3, none⟩ (.int .i64 j)) D P L M n k off uses true j las f) := (h.pow.2.2.1 true).pow.2.2.2 j
  have KA : Hid (Calls Tryd.prog 17 #[.pointer (some ⟨P, 0, none⟩), .int .i64 j] W fun e w' => e = .returned (.tuple #[]) ∧ w' = (W.setCell ⟨P, 2, none⟩ (.bool true)).setCell ⟨P, 3, none⟩ (.int .i64 j)) := by
    have h2 := h.p2
    have h3 : ∀ v, (W.setCell ⟨P, 2, none⟩ v).cell? ⟨P, 3, none⟩ = some (.int .i64 left) := fun v => by
      rw [World.cell?_setCell_other _ _ _ _ (fun e => by injection e with _ e2; cases e2)]; exact h.p3
    have hf := h.pf
    have hmax : max j 0 = j := by omega
    clear h
    go_enter Tryd.func17, Tryd.ntmps17
    go_wp2
    exact bodyPost_end (v := .tuple #[]) (by simp [results, Tryd.results17]) rfl ⟨rfl, rfl⟩
  have hd := h.d0
  clear h
  go_enter Tryd.func7, Tryd.ntmps7
  go_wp2_with fail
  refine KA.out.mono ?_
  rintro e w' ⟨rfl, rfl⟩
  have HB := HA.out
  have HF : Hid (Dv.Fr3 P L M W ((W.setCell ⟨P, 2, none⟩ (.bool true)).setCell ⟨P, 3, none⟩ (.int .i64 j))) := Dv.Fr3.two
  generalize (W.setCell ⟨P, 2, none⟩ (.bool true)).setCell ⟨P, 3, none⟩ (.int .i64 j) = X at *
  have HB := Lib.hid HB
  clear hd
  go_wp2
  exact bodyPost_end (v := .tuple #[]) (by simp [results, Tryd.results7]) rfl ⟨rfl, HB.out, HF.out⟩
theorem c_arm (h : Dev1 W D P L M) (j : Int) (hj : 0 ≤ j ∧ j ≤ 1000) :
    Calls Tryd.prog 7 #[.pointer (some ⟨D, 0, none⟩), .int .i64 j] W fun x w' => x = .returned (.tuple #[]) ∧ Live w' D P L M j 1 (1, 0, 0, 0, 0) ∧ Dv.Fr3 P L M W w' := by
  obtain ⟨las2, hd, h0, h1⟩ := h
  refine (arm_any hd j hj).mono ?_
  rintro x w' ⟨rfl, hd2, hf2⟩
  exact ⟨rfl, ⟨1, 2, las2, hd2, by omega, by omega, kp_first h0 h1⟩, hf2⟩
end
/-- May a number be? -/
def smB (n : Int) : Bool := decide (0 ≤ n) && decide (n < 4611686018427387904)
theorem small_any (n : Int) (W : World) : Calls Tryd.prog 18 #[.int .i64 n] W fun x w' => x = .returned (.bool (smB n)) ∧ W = w' := by
  go_enter Tryd.func18, Tryd.ntmps18
  by_cases h0 : 0 ≤ n
  · go_wp2
    exact bodyPost_ret (v := .bool (smB n)) (by simp [results, Tryd.results18, go_sem, smB, h0]) rfl ⟨rfl, rfl⟩
  · go_wp2
    exact bodyPost_ret (v := .bool (smB n)) (by simp [results, Tryd.results18, go_sem, smB]; omega) rfl ⟨rfl, rfl⟩
theorem hdOk_sm {s : Int} (hs : 0 ≤ s ∧ s ≤ 2147483647) (e c st m : Int) : hdOk s e c st m = (decide (0 ≤ e) && decide (e < 2147483648) && smB c && smB st && smB m) := by
  rw [Bool.eq_iff_iff]
  unfold hdOk inHd smB
  simp
  omega
set_option maxRecDepth 100000 in
set_option maxHeartbeats 2000000 in
theorem refRight7_any (s e c st m : Int) (hs : 0 ≤ s ∧ s ≤ 2147483647) (W : World) :
    Calls Tryd.prog 8 #[.agg #[.int .i64 s, .int .i64 e, .int .i64 c, .int .i64 st, .int .i64 m]] W fun x w' => x = .returned (.bool (hdOk s e c st m)) ∧ Below W.heap.size W w' := by
  have hS : smB s = true := by unfold smB; rw [decide_eq_true (by omega), decide_eq_true (by omega)]; rfl
  have K0 := Lib.hid (fun W => small_any s W)
  rw [hS] at K0
  have HO := Lib.hid (hdOk_sm hs e c st m)
  have KC := Lib.hid (fun W => small_any c W)
  have KS := Lib.hid (fun W => small_any st W)
  have KM := Lib.hid (fun W => small_any m W)
  have HB := Lib.hid ((Below.refl W.heap.size W).alloc (Nat.le_refl _) (.cells #[.int .i64 s, .int .i64 e, .int .i64 c, .int .i64 st, .int .i64 m] 33))
  generalize hdOk s e c st m = B at *
  clear hS hs
  go_enter Tryd.func8, Tryd.ntmps8
  go_wp2_with fail
  refine (K0.out _).mono ?_
  rintro x w1 ⟨rfl, rfl⟩
  clear K0
  by_cases h0 : 0 ≤ e
  · by_cases h1 : e < 2147483648
    · cases hc : smB c with
      | false =>
        rw [hc] at KC
        have HB3 : B = false := by rw [HO.out, hc]; simp
        subst HB3
        go_wp2_with fail
        refine (KC.out _).mono ?_
        rintro x w1 ⟨rfl, rfl⟩
        clear hc HO KC
        go_wp2
        go_ret
        exact ⟨rfl, HB.out⟩
      | true =>
        rw [hc] at KC
        go_wp2_with fail
        refine (KC.out _).mono ?_
        rintro x w1 ⟨rfl, rfl⟩
        cases ht : smB st with
        | false =>
          rw [ht] at KS
          have HB3 : B = false := by rw [HO.out, ht]; simp
          subst HB3
          go_wp2_with fail
          refine (KS.out _).mono ?_
          rintro x w1 ⟨rfl, rfl⟩
          clear hc ht HO KC
          go_wp2
          go_ret
          exact ⟨rfl, HB.out⟩
        | true =>
          rw [ht] at KS
          have HB3 : B = smB m := by rw [HO.out, hc, ht, decide_eq_true h0, decide_eq_true h1]; simp
          rw [← HB3] at KM
          clear HB3
          go_wp2_with fail
          refine (KS.out _).mono ?_
          rintro x w1 ⟨rfl, rfl⟩
          clear hc ht HO KC
          go_wp2_with fail
          refine (KM.out _).mono ?_
          rintro x w1 ⟨rfl, rfl⟩
          go_wp2
          go_ret
          exact ⟨rfl, HB.out⟩
    · have HB3 : B = false := by rw [HO.out, decide_eq_false h1]; simp
      subst HB3
      clear HO
      go_wp2
      go_ret
      exact ⟨rfl, HB.out⟩
  · have HB3 : B = false := by rw [HO.out, decide_eq_false h0]; simp
    subst HB3
    clear HO
    go_wp2
    go_ret
    exact ⟨rfl, HB.out⟩
end Go.Proofs.YthlhjpcclfhklaaDoor
