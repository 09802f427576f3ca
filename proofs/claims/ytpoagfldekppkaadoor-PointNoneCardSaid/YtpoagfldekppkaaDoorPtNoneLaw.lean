/-
  PointNone: the walk.
-/
import Derived.Test.YtpoagfldekppkaaDoorPtArgs
import Derived.Test.YtpoagfldekppkaaDoorPtAwake
namespace Go.Proofs.YtpoagfldekppkaaDoor
open Go.RowKit
/-- A new device. -/
def NewD (W : World) (D P L M : Nat) : Prop := Dv.DevAt W D P L M 2 0 false 0 false 0 (List.replicate 2 Dv.blank64) (fun _ => none)
/-- What stays: the table, the arguments' cells. -/
structure NnP (w W : World) (D P L M p q : Nat) (pl pn s e c t m : Int) : Prop where
  bw : Below w.heap.size w W
  d : NewD W D P L M
  p0 : W.cell? ⟨p, 0, none⟩ = some (.int .i64 pl)
  p1 : W.cell? ⟨p, 1, none⟩ = some (.int .i64 pn)
  h : C5 W q (.int .i64 s) (.int .i64 e) (.int .i64 c) (.int .i64 t) (.int .i64 m)
theorem NnP.below {w W X : World} {D P L M p q : Nat} {pl pn s e c t m : Int} (h : NnP w W D P L M p q pl pn s e c t m) (hb : Below W.heap.size W X) : NnP w X D P L M p q pl pn s e c t m :=
  ⟨h.bw.trans (hb.mono h.bw.size), Dv.DevAt.below h.d hb, keep_h hb h.p0, keep_h hb h.p1, h.h.below hb⟩
section
variable {W : World} {D P L M : Nat}
/-- Load of a device that is new: nothing. -/
theorem new_load (h : NewD W D P L M) (ht : Tab W) : Calls Tryd.prog 23 #[.pointer (some ⟨D, 0, none⟩), .int .i64 0] W
      fun x w' => x = .returned (.tuple #[.agg #[.int .i64 0, .int .i64 0, .int .i64 0, .int .i64 0, .int .i64 0], .int .i64 7]) ∧ Below W.heap.size W w' := by
  have hl := load_any W h 0 (by omega) (by omega) (fun z l e => by cases e) ht
  have e0 : ∀ k, k < 2 → ldSec (List.replicate 2 Dv.blank64) (fun _ => none) 0 k = zero64 := fun k hk => by
    match k, hk with
    | 0, _ => rfl
    | 1, _ => rfl
  have : ldFrom (ldSec (List.replicate 2 Dv.blank64) (fun _ => none) 0) 0 (z5, false, true) = (z5, 7) := by
    show ldEnd (ldStep 1 (ldStep 0 (z5, false, true) (ldSec _ _ 0 0)) (ldSec _ _ 0 1)) = _
    rw [e0 0 (by omega), e0 1 (by omega)]
    unfold ldStep
    rw [readHd_zero]
    simp only [allZ_zero]
    rfl
  rw [this] at hl
  exact hl
theorem new_open (h : NewD W D P L M) (ht : Tab W) : Calls Tryd.prog 15 #[.pointer (some ⟨D, 0, none⟩)] W
      fun x w' => x = .returned (.tuple #[.pointer none, .int .i64 7]) ∧ Below W.heap.size W w' :=
  open_no 7 (by decide) (Lib.hid fun X hX => new_load (Dv.DevAt.below h hX) (ht.below hX))
theorem nil_open (W : World) : Calls Tryd.prog 15 #[.pointer none] W
      fun x w' => x = .returned (.tuple #[.pointer none, .int .i64 1]) ∧ Below W.heap.size W w' :=
  open_no 1 (by decide) (Lib.hid fun X hX => load_nil 0 X (by omega))
/-- A device on which one head was saved. -/
def OneD (W : World) (D P L M : Nat) (q : Hd5) : Prop := ∃ las2, Dv.DevAt W D P L M 2 1 false 2 false 0 las2 (fun _ => none) ∧ (∀ j : Nat, j < 2 → las2.getD j Dv.blank64 = if (j : Int) = q.1 % 2 then hdL q else Dv.blank64) ∧ hdOk5 q
theorem OneD.below {X : World} {q : Hd5} (h : OneD W D P L M q) (hb : Below W.heap.size W X) : OneD X D P L M q := by
  obtain ⟨las2, hd, hl, hk⟩ := h
  exact ⟨las2, hd.below hb, hl, hk⟩
theorem one_save (h : NewD W D P L M) (ht : Tab W) (s e c t m : Int) (ho : hdOk s e c t m = true) (ho2 : hdOk (s + 1) e c t m = true) :
    Calls Tryd.prog 18 #[.pointer (some ⟨D, 0, none⟩), .int .i64 0, .agg #[.int .i64 s, .int .i64 e, .int .i64 c, .int .i64 t, .int .i64 m]] W
      fun x w' => x = .returned (.tuple #[.agg #[.int .i64 (s + 1), .int .i64 e, .int .i64 c, .int .i64 t, .int .i64 m], .int .i64 0]) ∧ OneD w' D P L M (s + 1, e, c, t, m) ∧ Dv.Fr3 P L M W w' := by
  refine (save_any W h (by omega) (by omega) 0 (by omega) (by omega) (fun z l e => by cases e) ht s e c t m ho ho2).mono ?_
  rintro x w' ⟨rfl, las2, hd2, hl2, hf2⟩
  refine ⟨rfl, ⟨las2, hd2, fun j hj => ?_, ho2⟩, hf2⟩
  rw [hl2 j hj]
  show Dv.secAt _ _ _ = _
  unfold Dv.secAt Dv.upd
  by_cases hj2 : (j : Int) = (s + 1) % 2
  · rw [if_pos (by simpa using hj2), if_pos hj2]; rfl
  · rw [if_neg (by simpa using hj2), if_neg hj2]
    match j, hj with
    | 0, _ => rfl
    | 1, _ => rfl
theorem one_load {q : Hd5} (h : OneD W D P L M q) (ht : Tab W) : Calls Tryd.prog 23 #[.pointer (some ⟨D, 0, none⟩), .int .i64 0] W
      fun x w' => x = .returned (.tuple #[agH q, .int .i64 0]) ∧ Below W.heap.size W w' := by
  obtain ⟨las2, hd, hl, hk⟩ := h
  have hl0 := load_any W hd 0 (by omega) (by omega) (fun z l e => by cases e) ht
  have r0 : ∀ j : Nat, j < 2 → ldSec las2 (fun _ => none) 0 j = if (j : Int) = q.1 % 2 then hdS q else zero64 := fun j hj => by
    rw [ldSec_get, hl j hj]
    split <;> rfl
  have : ldFrom (ldSec las2 (fun _ => none) 0) 0 (z5, false, true) = (q, 0) := by
    by_cases hp : q.1 % 2 = 1
    · refine ld_odd ?_ hp (.inl ?_)
      · rw [r0 1 (by omega), if_pos (by rw [hp]; rfl)]; exact read5 hk
      · rw [r0 0 (by omega), if_neg (by rw [hp]; decide)]; exact readHd_zero
    · have hp0 : q.1 % 2 = 0 := by omega
      refine ld_even ?_ hp0 (.inl ?_)
      · rw [r0 0 (by omega), if_pos (by rw [hp0]; rfl)]; exact read5 hk
      · rw [r0 1 (by omega), if_neg (by rw [hp0]; decide)]; exact readHd_zero
  rw [this] at hl0
  exact hl0
end
/-- What stays behind the Save. -/
structure SvP (w W : World) (D P L M q r : Nat) (s e c t m : Int) : Prop where
  bw : Below w.heap.size w W
  d : OneD W D P L M (s + 1, e, c, t, m)
  h : C5 W q (.int .i64 s) (.int .i64 e) (.int .i64 c) (.int .i64 t) (.int .i64 m)
  k : C5 W r (.int .i64 (s + 1)) (.int .i64 e) (.int .i64 c) (.int .i64 t) (.int .i64 m)
theorem SvP.below {w W X : World} {D P L M q r : Nat} {s e c t m : Int} (h : SvP w W D P L M q r s e c t m) (hb : Below W.heap.size W X) : SvP w X D P L M q r s e c t m :=
  ⟨h.bw.trans (hb.mono h.bw.size), h.d.below hb, h.h.below hb, h.k.below hb⟩
theorem svP_new {w W X : World} {D P L M p q : Nat} {pl pn s e c t m : Int} (h : NnP w W D P L M p q pl pn s e c t m) (hd : OneD X D P L M (s + 1, e, c, t, m)) (hf : Dv.Fr3 P L M W X) (hlo : w.heap.size ≤ P ∧ w.heap.size ≤ L ∧ w.heap.size ≤ M) (hq : q ≠ P ∧ q ≠ L ∧ q ≠ M) (T : TypeId) :
    SvP w (X.alloc (.cells #[.int .i64 (s + 1), .int .i64 e, .int .i64 c, .int .i64 t, .int .i64 m] T)) D P L M q X.heap.size s e c t m := by
  have hb : Below X.heap.size X (X.alloc (.cells #[.int .i64 (s + 1), .int .i64 e, .int .i64 c, .int .i64 t, .int .i64 m] T)) := (Below.refl _ _).alloc (Nat.le_refl _) _
  have hw := h.bw.trans (hf.below h.bw.size hlo.1 hlo.2.1 hlo.2.2)
  have hc : C5 X q (.int .i64 s) (.int .i64 e) (.int .i64 c) (.int .i64 t) (.int .i64 m) := ⟨hf.cell h.h.c0 hq.1 hq.2.1 hq.2.2, hf.cell h.h.c1 hq.1 hq.2.1 hq.2.2, hf.cell h.h.c2 hq.1 hq.2.1 hq.2.2, hf.cell h.h.c3 hq.1 hq.2.1 hq.2.2, hf.cell h.h.c4 hq.1 hq.2.1 hq.2.2⟩
  exact ⟨hw.trans (hb.mono hw.size), hd.below hb, hc.below hb, C5.new _ _ _ _ _ _ T⟩
set_option maxRecDepth 100000 in
set_option maxHeartbeats 4000000 in
theorem pointNone_walk (pl pn s e c t m : Int) (w : World) (ht : Tab w) :
    Calls Tryd.prog 6 #[.agg #[.int .i64 pl, .int .i64 pn], .agg #[.int .i64 s, .int .i64 e, .int .i64 c, .int .i64 t, .int .i64 m]] w fun x w' => x = .returned (.bool true) ∧ Below w.heap.size w w' := by
  have KA := Lib.hid (fun W hT => awake19_any W hT)
  have KF := Lib.hid (fun W hT => format_nil W hT)
  have KO := Lib.hid nil_open
  have KN := Lib.hid new19
  have K2 := Lib.hid (fun W D P L M (h : NewD W D P L M) hT => new_open h hT)
  have KK := Lib.hid (fun W => keep_nil pl pn W)
  have KP := Lib.hid (fun W => point_nil W)
  have HT := Lib.hid ht
  have hb0 := (Below.refl w.heap.size w).alloc (Nat.le_refl _) (.cells #[.int .i64 pl, .int .i64 pn] 34)
  have hs0 : (w.alloc (.cells #[.int .i64 pl, .int .i64 pn] 34)).heap.size = w.heap.size + 1 := World.size_alloc _ _
  have hp0 : (w.alloc (.cells #[.int .i64 pl, .int .i64 pn] 34)).cell? ⟨w.heap.size, 0, none⟩ = some (.int .i64 pl) := new_h rfl rfl
  have hp1 : (w.alloc (.cells #[.int .i64 pl, .int .i64 pn] 34)).cell? ⟨w.heap.size, 1, none⟩ = some (.int .i64 pn) := new_h rfl rfl
  have hcq := C5.new (w.alloc (.cells #[.int .i64 pl, .int .i64 pn] 34)) (.int .i64 s) (.int .i64 e) (.int .i64 c) (.int .i64 t) (.int .i64 m) 44
  rw [hs0] at hcq
  have hb1 := hb0.alloc hb0.size (.cells #[.int .i64 s, .int .i64 e, .int .i64 c, .int .i64 t, .int .i64 m] 44)
  have B0 := Lib.hid hb1
  have P0 := Lib.hid (Dv.keep_alloc (o := .cells #[.int .i64 s, .int .i64 e, .int .i64 c, .int .i64 t, .int .i64 m] 44) hp0)
  have P1 := Lib.hid (Dv.keep_alloc (o := .cells #[.int .i64 s, .int .i64 e, .int .i64 c, .int .i64 t, .int .i64 m] 44) hp1)
  have C0 := Lib.hid hcq
  clear ht hb0 hs0 hp0 hp1 hcq hb1
  go_enter Tryd.func6, Tryd.ntmps6
  go_upto_region 1 with fail
  generalize (w.alloc (.cells #[.int .i64 pl, .int .i64 pn] 34)).alloc (.cells #[.int .i64 s, .int .i64 e, .int .i64 c, .int .i64 t, .int .i64 m] 44) = Y at *
  have hpq : w.heap.size < w.heap.size + 1 := Nat.lt_succ_self _
  generalize w.heap.size + 1 = q at *
  go_wp2_with fail
  refine (KA.out _ (HT.out.below B0.out)).mono ?_
  rintro x w1 ⟨rfl, hb⟩
  have B1 := Lib.hid (B0.out.trans (hb.mono B0.out.size))
  have P01 := Lib.hid (keep_h hb P0.out)
  have P11 := Lib.hid (keep_h hb P1.out)
  have C1 := Lib.hid (C0.out.below hb)
  clear hb KA B0 P0 P1 C0
  go_wp2_with fail
  refine (KF.out _ (HT.out.below B1.out)).mono ?_
  rintro x w2 ⟨rfl, hb⟩
  have B2 := Lib.hid (B1.out.trans (hb.mono B1.out.size))
  have P02 := Lib.hid (keep_h hb P01.out)
  have P12 := Lib.hid (keep_h hb P11.out)
  have C2 := Lib.hid (C1.out.below hb)
  clear hb KF B1 P01 P11 C1
  go_wp2_with fail
  refine (KO.out _).mono ?_
  rintro x w3 ⟨rfl, hb⟩
  have B3 := Lib.hid (B2.out.trans (hb.mono B2.out.size))
  have P03 := Lib.hid (keep_h hb P02.out)
  have P13 := Lib.hid (keep_h hb P12.out)
  have C3 := Lib.hid (C2.out.below hb)
  clear hb KO B2 P02 P12 C2
  have hq3 : q < w3.heap.size := blk_of C3.out.c0
  have hw3 := B3.out.size
  go_wp2_with fail
  refine (KN.out _).mono ?_
  rintro x w4 ⟨rfl, hd, hb⟩
  have N4 : Hid (NnP w w4 (w3.heap.size + 1 + 1 + 1) w3.heap.size (w3.heap.size + 1) (w3.heap.size + 1 + 1) w.heap.size q pl pn s e c t m) := ⟨B3.out.trans (hb.mono hw3), hd, keep_h hb P03.out, keep_h hb P13.out, C3.out.below hb⟩
  have hlo : w.heap.size ≤ w3.heap.size ∧ w.heap.size ≤ w3.heap.size + 1 ∧ w.heap.size ≤ w3.heap.size + 1 + 1 := ⟨hw3, by omega, by omega⟩
  have hqn : q ≠ w3.heap.size ∧ q ≠ w3.heap.size + 1 ∧ q ≠ w3.heap.size + 1 + 1 := ⟨by omega, by omega, by omega⟩
  have LO := Lib.hid hlo
  have QN := Lib.hid hqn
  clear hd hb B3 P03 P13 C3 KN hq3 hw3 hlo hqn
  generalize w3.heap.size + 1 + 1 + 1 = D at *
  generalize w3.heap.size + 1 + 1 = M at *
  generalize w3.heap.size + 1 = L at *
  generalize w3.heap.size = P at *
  go_wp2_with fail
  refine (K2.out _ _ _ _ _ N4.out.d (HT.out.below N4.out.bw)).mono ?_
  rintro x w5 ⟨rfl, hb⟩
  have N5 := Lib.hid (N4.out.below hb)
  clear hb N4 K2
  have p0 := N5.out.p0
  have p1 := N5.out.p1
  go_wp2_with fail
  refine (KK.out _).mono ?_
  rintro x w6 ⟨rfl, hb⟩
  have N6 := Lib.hid (N5.out.below hb)
  clear hb N5 KK p0 p1
  go_wp2_with fail
  refine (KP.out _).mono ?_
  rintro x w7 ⟨rfl, hb⟩
  have N7 := Lib.hid (N6.out.below hb)
  clear hb N6 KP
  obtain ⟨q0, q1, q2, q3, q4⟩ := N7.out.h
  cases ho : hdOk s e c t m with
  | false =>
    have KS := Lib.hid (save_bad w7 N7.out.d 0 (by omega) (by omega) s e c t m ho)
    clear ho
    go_wp2_with fail
    refine KS.out.mono ?_
    rintro x w8 ⟨rfl, hb⟩
    have B8 := Lib.hid ((N7.out.below hb).bw.alloc (N7.out.below hb).bw.size (.cells #[.int .i64 0, .int .i64 0, .int .i64 0, .int .i64 0, .int .i64 0] 44))
    clear hb KS N7 q0 q1 q2 q3 q4
    go_wp2
    exact bodyPost_ret (v := .bool true) (by simp [results, Tryd.results6, go_sem]) rfl ⟨rfl, B8.out⟩
  | true =>
    cases ho2 : hdOk (s + 1) e c t m with
    | false =>
      have KS := Lib.hid (save_top w7 N7.out.d 0 (by omega) (by omega) s e c t m ho ho2)
      clear ho ho2
      go_wp2_with fail
      refine KS.out.mono ?_
      rintro x w8 ⟨rfl, hb⟩
      have B8 := Lib.hid ((N7.out.below hb).bw.alloc (N7.out.below hb).bw.size (.cells #[.int .i64 0, .int .i64 0, .int .i64 0, .int .i64 0, .int .i64 0] 44))
      clear hb KS N7 q0 q1 q2 q3 q4
      go_wp2
      exact bodyPost_ret (v := .bool true) (by simp [results, Tryd.results6, go_sem]) rfl ⟨rfl, B8.out⟩
    | true =>
      have KS := Lib.hid (one_save N7.out.d (HT.out.below N7.out.bw) s e c t m ho ho2)
      clear ho ho2
      go_wp2_with fail
      refine KS.out.mono ?_
      rintro x w8 ⟨rfl, hd8, hf8⟩
      have S8 := Lib.hid (svP_new N7.out hd8 hf8 LO.out QN.out 44)
      clear hd8 hf8 KS N7 q0 q1 q2 q3 q4
      go_upto_region 11 with fail
      generalize w8.alloc (.cells #[.int .i64 (s + 1), .int .i64 e, .int .i64 c, .int .i64 t, .int .i64 m] 44) = Y8 at *
      generalize w8.heap.size = R8 at *
      by_cases he : e = 0 ∧ m = 0
      · obtain ⟨rfl, rfl⟩ := he
        have K3 := Lib.hid (open_yes (W := Y8) (da := some ⟨D, 0, none⟩) t c (s + 1) (Lib.hid fun X hX => one_load (S8.out.d.below hX) (HT.out.below (S8.out.below hX).bw)))
        go_wp2_with fail
        refine K3.out.mono ?_
        rintro x w9 ⟨A, hA, rfl, hm9, hb⟩
        have S9 := Lib.hid (S8.out.below hb)
        have M9 := Lib.hid hm9
        clear hb hm9 hA K3 S8
        obtain ⟨k0, k1, k2, k3, k4⟩ := S9.out.k
        obtain ⟨q0, q1, q2, q3, q4⟩ := S9.out.h
        have KQ := Lib.hid (fun X (hX : Below w9.heap.size w9 X) => point_any (M9.out.below hX))
        go_upto_region 16 with fail
        go_region_held3 (fun w' => w'.cell? ⟨q, 3, none⟩ = some (.int .i64 t) ∧ w'.cell? ⟨q, 2, none⟩ = some (.int .i64 c)) (go_keep)
          (first | (go_at_call 11; (with_reducible refine (KQ.out _ (Below.refl _ _).drew).mono ?_); rintro x w10 ⟨rfl, hb10⟩; have hb11 := (Below.refl w9.heap.size w9).drew.trans hb10; have g3 := keep_h hb11 q3; have g2 := keep_h hb11 q2))
        all_goals
          have B10 := Lib.hid (S9.out.below hb11).bw
          clear hb11 hb10
          go_wp2
          exact bodyPost_ret (v := .bool true) (by simp [results, Tryd.results6, go_sem]) rfl ⟨rfl, B10.out⟩
      · have K3 := Lib.hid (open_bad (W := Y8) (da := some ⟨D, 0, none⟩) (s + 1, e, c, t, m) he (Lib.hid fun X hX => one_load (S8.out.d.below hX) (HT.out.below (S8.out.below hX).bw)))
        have HE := Lib.hid he
        clear he
        go_wp2_with fail
        refine K3.out.mono ?_
        rintro x w9 ⟨rfl, hb⟩
        have S9 := Lib.hid (S8.out.below hb)
        clear hb K3 S8
        obtain ⟨k0, k1, k2, k3, k4⟩ := S9.out.k
        by_cases h1 : e = 0
        · subst h1
          have h2 : ¬ m = 0 := fun h => HE.out ⟨rfl, h⟩
          go_wp2
          exact bodyPost_ret (v := .bool true) (by simp [results, Tryd.results6, go_sem]) rfl ⟨rfl, S9.out.bw⟩
        · go_wp2
          exact bodyPost_ret (v := .bool true) (by simp [results, Tryd.results6, go_sem]) rfl ⟨rfl, S9.out.bw⟩
end Go.Proofs.YtpoagfldekppkaaDoor
