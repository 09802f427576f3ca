/-
  THE CONTRACTS OF twice's Need, fits, Format.
-/
import Derived.Test.YtkemhkmabbladaaGreatDoorTwPage
namespace Go.Proofs.YtkemhkmabbladaaGreatDoor
open Go.RowKit
/-- A device, since a world ahead of it. -/
structure DvB (w W : World) (D P L M n B : Nat) (s : Ds) : Prop where
  d : DvS W D P L M n B s
  bw : Below w.heap.size w W
  lo : w.heap.size ≤ P ∧ w.heap.size ≤ L ∧ w.heap.size ≤ M
  tab : Tab w
section
variable {w W : World} {D P L M n B T pages : Nat} {s : Ds}
theorem DvB.next {W' : World} {B' : Nat} {s' : Ds} (h : DvB w W D P L M n B s) (hd : DvS W' D P L M n B' s') (hf : Dv.Fr3 P L M W W') : DvB w W' D P L M n B' s' where
  d := hd
  bw := h.bw.trans (hf.below h.bw.size h.lo.1 h.lo.2.1 h.lo.2.2)
  lo := h.lo
  tab := h.tab
theorem DvB.below {X : World} (h : DvB w W D P L M n B s) (hb : Below W.heap.size W X) : DvB w X D P L M n B s := h.next (h.d.below hb) (Dv.Fr3.of_below hb)
theorem DvB.tw (h : DvB w W D P L M n B s) (pages : Nat) (Ty : TypeId) : TwS w (W.alloc (.cells #[.pointer (some ⟨D, 0, none⟩), .int .i64 (pages : Int)] Ty)) D P L M n B W.heap.size pages s := by
  have hb := (Below.refl W.heap.size W).alloc (Nat.le_refl _) (.cells #[.pointer (some ⟨D, 0, none⟩), .int .i64 (pages : Int)] Ty)
  have hl := h.d.lts
  have h2 := h.below hb
  exact ⟨h2.d, Dv.new_cell rfl rfl, Dv.new_cell rfl rfl, ⟨by omega, by omega, by omega⟩, h2.bw, h2.lo, h2.tab⟩
theorem TwS.b (h : TwS w W D P L M n B T pages s) : DvB w W D P L M n B s := ⟨h.d, h.bw, h.lo, h.tab⟩
theorem DvS.congr {pm : Pm} {g g2 : Nat → List UInt8} {f : Int → Option (List UInt8)} (h : DvS W D P L M n B ⟨pm, g, f⟩) (hg : ∀ j, j < n → g j = g2 j) : DvS W D P L M n B ⟨pm, g2, f⟩ := by
  obtain ⟨k, off, uses, armed, left, las, hd, hb, hp, hl, hf⟩ := h
  exact ⟨k, off, uses, armed, left, las, hd, hb, hp, fun j hj => (hl j hj).trans (hg j hj), hf⟩
def needV (p : Int) : Int := if 1 ≤ p ∧ p ≤ 64 then 5 + 4 * p else 0
theorem need_any (p : Int) (W : World) : Calls Tryz.prog 65 #[.int .i64 p] W fun x w' => x = .returned (.int .i64 (needV p)) ∧ W = w' := by
  by_cases h1 : p < 1
  · have e : needV p = 0 := by unfold needV; rw [if_neg (by omega)]
    rw [e]
    go_enter Tryz.func65, Tryz.ntmps65
    go_wp2
    go_ret
    exact ⟨rfl, rfl⟩
  · by_cases h2 : 64 < p
    · have e : needV p = 0 := by unfold needV; rw [if_neg (by omega)]
      rw [e]
      have h3 : 1 ≤ p := by omega
      go_enter Tryz.func65, Tryz.ntmps65
      go_wp2
      go_ret
      exact ⟨rfl, rfl⟩
    · have e : needV p = 5 + 4 * p := by unfold needV; rw [if_pos (by omega)]
      have h3 : 1 ≤ p := by omega
      have h4 : p ≤ 64 := by omega
      have KP := Lib.hid (fun W => place_big p.toNat (by omega) W)
      have e2 : ((place p.toNat : Nat) : Int) = needV p := by rw [e]; unfold place; omega
      rw [e2, Int.toNat_of_nonneg (by omega)] at KP
      generalize needV p = v at *
      clear e e2
      go_enter Tryz.func65, Tryz.ntmps65
      go_wp2_with fail
      refine (KP.out _).mono ?_
      rintro x w1 ⟨rfl, rfl⟩
      go_wp2
      go_ret
      exact ⟨rfl, rfl⟩
def fitsB (n : Nat) (p : Int) : Bool := decide (0 < needV p) && decide (needV p ≤ (n : Int))
theorem fits_dev (h : DvS W D P L M n B s) (p : Int) : Calls Tryz.prog 34 #[.pointer (some ⟨D, 0, none⟩), .int .i64 p] W fun x w' => x = .returned (.bool (fitsB n p)) ∧ W = w' := by
  have KN := Lib.hid (fun W => need_any p W)
  have KS := Lib.hid (sectors_s h)
  have HF : Hid (fitsB n p = (decide (0 < needV p) && decide (needV p ≤ (n : Int)))) := rfl
  clear h
  generalize fitsB n p = b at *
  generalize needV p = v at *
  by_cases h1 : 0 < v
  · have e : b = decide (v ≤ (n : Int)) := by rw [HF.out, decide_eq_true h1]; rfl
    rw [e]
    clear e HF
    go_enter Tryz.func34, Tryz.ntmps34
    go_wp2_with fail
    refine (KN.out _).mono ?_
    rintro x w1 ⟨rfl, rfl⟩
    go_wp2_with fail
    refine KS.out.mono ?_
    rintro x w1 ⟨rfl, rfl⟩
    go_wp2
    go_ret
    exact ⟨rfl, rfl⟩
  · have e : b = false := by rw [HF.out, decide_eq_false h1]; rfl
    subst e
    clear HF KS
    go_enter Tryz.func34, Tryz.ntmps34
    go_wp2_with fail
    refine (KN.out _).mono ?_
    rintro x w1 ⟨rfl, rfl⟩
    go_wp2
    go_ret
    exact ⟨rfl, rfl⟩
theorem fits_nil (p : Int) (W : World) : Calls Tryz.prog 34 #[.pointer none, .int .i64 p] W fun x w' => x = .returned (.bool false) ∧ W = w' := by
  have KN := Lib.hid (fun W => need_any p W)
  have KS := Lib.hid (fun W => Dv.sectors_nil W)
  generalize needV p = v at *
  by_cases h1 : 0 < v
  · have hv : decide (v ≤ 0) = false := decide_eq_false (by omega)
    go_enter Tryz.func34, Tryz.ntmps34
    go_wp2_with fail
    refine (KN.out _).mono ?_
    rintro x w1 ⟨rfl, rfl⟩
    go_wp2_with fail
    refine (KS.out _).mono ?_
    rintro x w1 ⟨rfl, rfl⟩
    go_wp2
    go_ret
    exact ⟨rfl, rfl⟩
  · go_enter Tryz.func34, Tryz.ntmps34
    go_wp2_with fail
    refine (KN.out _).mono ?_
    rintro x w1 ⟨rfl, rfl⟩
    go_wp2
    go_ret
    exact ⟨rfl, rfl⟩
theorem fits_yes {p : Nat} (h1 : 1 ≤ p) (h2 : p ≤ 64) (h3 : 5 + 4 * p ≤ n) : fitsB n (p : Int) = true := by
  unfold fitsB needV
  rw [if_pos (by omega), decide_eq_true (by omega), decide_eq_true (by omega)]; rfl
theorem fmt_bad (h : DvS W D P L M n B s) (p : Int) (hb : fitsB n p = false) : Calls Tryz.prog 19 #[.pointer (some ⟨D, 0, none⟩), .int .i64 p] W fun x w' => x = .returned (.tuple #[.pointer none, .int .i64 1]) ∧ W = w' := by
  have KF := Lib.hid (fits_dev h p)
  rw [hb] at KF
  clear h hb
  go_enter Tryz.func19, Tryz.ntmps19
  go_wp2_with fail
  refine KF.out.mono ?_
  rintro x w1 ⟨rfl, rfl⟩
  go_wp2
  go_ret2
  exact ⟨rfl, rfl⟩
/-- A new device of pages. -/
def dsNew : Ds := ⟨.on, fun _ => Dv.blank64, fun _ => none⟩
def FmP (w W : World) (D P L M n B pages : Nat) (x : Ending) (w' : World) : Prop := ∃ T, x = .returned (.tuple #[.pointer (some ⟨T, 0, none⟩), .int .i64 0]) ∧ TwS w w' D P L M n B T pages dsNew ∧ Dv.Fr3 P L M W w' ∧ W.heap.size ≤ T
set_option maxRecDepth 100000 in
set_option maxHeartbeats 4000000 in
theorem fmt_s {g : Nat → List UInt8} {f : Int → Option (List UInt8)} (h : DvB w W D P L M n B ⟨.on, g, f⟩) (hB : B + n + 1 ≤ 900000) (hn : n ≤ 4096) (p : Nat) (h1 : 1 ≤ p) (h2 : p ≤ 64) (h3 : 5 + 4 * p ≤ n) :
    Calls Tryz.prog 19 #[.pointer (some ⟨D, 0, none⟩), .int .i64 (p : Int)] W (FmP w W D P L M n (B + n + 1) p) := by
  have KF := Lib.hid (fits_dev h.d (p : Int))
  rw [fits_yes h1 h2 h3] at KF
  have KS := Lib.hid (sectors_s h.d)
  have H0 : Hid (DvB w W D P L M n (B + 0) ⟨.on, g, f⟩) := h
  have F0 : Hid (Dv.Fr3 P L M W W) := Dv.Fr3.refl ..
  have hn1 : (n : Int) ≤ 4096 := by omega
  clear h
  go_enter Tryz.func19, Tryz.ntmps19
  go_wp2_with fail
  refine KF.out.mono ?_
  rintro x w1 ⟨rfl, rfl⟩
  go_wp2_with fail
  refine KS.out.mono ?_
  rintro x w1 ⟨rfl, rfl⟩
  clear KF KS
  go_wp2
  go_loopw [15] (fun i wr => ∃ (k : Nat) (f1 : Int → Option (List UInt8)), k ≤ n ∧ i = .int .i64 k ∧ Hid (∀ j : Nat, j < k → f1 (j : Int) = some Dv.blank64) ∧ Hid (DvB w wr D P L M n (B + k) ⟨.on, g, f1⟩) ∧ Hid (Dv.Fr3 P L M W wr)) (fun i _ => n - (intOf i).toNat)
  case atStart => exact ⟨0, f, Nat.zero_le _, rfl, (fun j hj => by omega : ∀ j : Nat, j < 0 → f (j : Int) = some Dv.blank64), H0, F0⟩
  case round =>
    obtain ⟨k, f1, hk, rfl, HL, HS, HF⟩ := hrel
    rename World => wa
    clear H0 F0
    have hk0 : (0 : Int) ≤ (k : Int) := by omega
    by_cases hlt : k < n
    · have hk1 : (k : Int) < (n : Int) := by omega
      have KW := Lib.hid (write_e HS.out.d (by omega) k hlt hn)
      have KW2 := Lib.hid (KW.out.mono fun x w' (hh : WrP _ _ _ _ _ _ _ _ _ _ x w') => (hh : x = .returned (.int .i64 0) ∧ DvS w' D P L M n (B + k + 1) ⟨.on, g, Dv.upd f1 (k : Int) (some Dv.blank64)⟩ ∧ Dv.Fr3 P L M wa w'))
      clear KW
      go_wp2_with fail
      refine KW2.out.mono ?_
      rintro x w2 ⟨rfl, hd2, hf2⟩
      have S2 := Lib.hid (HS.out.next hd2 hf2)
      have F2 := Lib.hid (HF.out.trans hf2)
      clear hd2 hf2 KW2 HS HF
      go_wp2
      go_roundw
      case rel =>
        refine ⟨k + 1, _, by omega, by go_num, (show ∀ j : Nat, j < k + 1 → _ from fun j hj => ?_), S2, F2⟩
        by_cases e : j = k
        · subst e; exact upd_in
        · rw [upd_out e]; exact HL.out j (by omega)
      case measure => simp [intOf]; omega
    · have hk1 : (n : Int) ≤ (k : Int) := by omega
      have hkn : k = n := by omega
      have KS := Lib.hid ((sync_s HS.out.d (by omega)).mono fun x w' (hh : SyPst _ _ _ _ _ _ _ _ x w') => (hh : x = .returned (.int .i64 0) ∧ DvS w' D P L M n (B + k + 1) ⟨.on, vw ⟨.on, g, f1⟩, fun _ => none⟩ ∧ Dv.Fr3 P L M wa w'))
      go_wp2_with fail
      refine KS.out.mono ?_
      rintro x w2 ⟨rfl, hd2, hf2⟩
      have hg : ∀ j, j < n → vw ⟨.on, g, f1⟩ j = Dv.blank64 := fun j hj => by
        unfold vw; show (f1 (j : Int)).getD _ = _; rw [HL.out j (by omega)]; rfl
      have S2 := Lib.hid ((HS.out.next (hd2.congr hg) hf2).tw p 81)
      have F2 := Lib.hid ((HF.out.trans hf2).trans (Dv.Fr3.of_below ((Below.refl w2.heap.size w2).alloc (Nat.le_refl _) (.cells #[.pointer (some ⟨D, 0, none⟩), .int .i64 (p : Int)] 81))))
      have hle := (HF.out.trans hf2).size
      clear hd2 hf2 KS HS HF hg HL
      go_wp2
      go_ret2
      exact ⟨w2.heap.size, rfl, by rw [hkn] at S2; exact S2.out, F2.out, hle⟩
end
end Go.Proofs.YtkemhkmabbladaaGreatDoor
