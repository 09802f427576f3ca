/-
  THE CONTRACTS OF twice's lay, note, settle: a page's bytes written, the note written, both as far as the power lasts.
-/
import Derived.Test.YtkemhkmabbladaaGreatDoorTwM
import Derived.Deep.RegionHeld3
import Derived.Deep.Cut
import Derived.Deep.CutRange
import Derived.Deep.DeepCutAuto
import Derived.Deep.CutBlock
namespace Go.Proofs.YtkemhkmabbladaaGreatDoor
open Go.RowKit
/-- Pages on a device, in memory. -/
structure TwS (w W : World) (D P L M n B T pages : Nat) (s : Ds) : Prop where
  d : DvS W D P L M n B s
  t0 : W.cell? ⟨T, 0, none⟩ = some (.pointer (some ⟨D, 0, none⟩))
  t1 : W.cell? ⟨T, 1, none⟩ = some (.int .i64 (pages : Int))
  tne : T ≠ P ∧ T ≠ L ∧ T ≠ M
  bw : Below w.heap.size w W
  lo : w.heap.size ≤ P ∧ w.heap.size ≤ L ∧ w.heap.size ≤ M
  tab : Tab w
section
variable {w W : World} {D P L M n B T pages : Nat} {s : Ds}
theorem TwS.next {W' : World} {B' : Nat} {s' : Ds} (h : TwS w W D P L M n B T pages s) (hd : DvS W' D P L M n B' s') (hf : Dv.Fr3 P L M W W') : TwS w W' D P L M n B' T pages s' where
  d := hd
  t0 := hf.cell h.t0 h.tne.1 h.tne.2.1 h.tne.2.2
  t1 := hf.cell h.t1 h.tne.1 h.tne.2.1 h.tne.2.2
  tne := h.tne
  bw := h.bw.trans (hf.below h.bw.size h.lo.1 h.lo.2.1 h.lo.2.2)
  lo := h.lo
  tab := h.tab
theorem TwS.below {X : World} (h : TwS w W D P L M n B T pages s) (hb : Below W.heap.size W X) : TwS w X D P L M n B T pages s := h.next (h.d.below hb) (Dv.Fr3.of_below hb)
theorem TwS.more {B' : Nat} (h : TwS w W D P L M n B T pages s) (hB : B ≤ B') : TwS w W D P L M n B' T pages s := { h with d := h.d.more hB }
theorem TwS.tabW (h : TwS w W D P L M n B T pages s) : Tab W := h.tab.below h.bw
theorem tw_drew {W : World} {p : Addr} {v : Value} (hc : W.cell? p = some v) : W.drew.cell? p = some v := hc
theorem er_t {b : Bool} (h : b = true) : er b = 0 := by rw [h]; rfl
theorem er_f {b : Bool} (h : b = false) : er b = 6 := by rw [h]; rfl
theorem sq_t {a b : Ds → Bool × Ds} (h : (a s).1 = true) : sq a b s = b (a s).2 := by unfold sq; rw [h]
theorem sq_f {a b : Ds → Bool × Ds} (h : (a s).1 = false) : sq a b s = (false, (a s).2) := by unfold sq; rw [h]
/-- Write, of a text that was made for it. -/
theorem put1 (h : DvS W D P L M n B s) (hB : B ≤ 900000) (i : Nat) (hi : i < n) (hn : n ≤ 4096) (X : ByteArray) (l : List UInt8) (hX : X.data.toList = l) (hl : l.length ≤ 64) :
    Calls Tryz.prog 53 #[.pointer (some ⟨D, 0, none⟩), .int .i64 (i : Int), .slice (some ⟨W.heap.size, 0, none⟩) 1 1] (W.alloc (.cells #[.string X] 9)).drew
      fun x w' => x = .returned (.int .i64 (er (wr i l s).1)) ∧ DvS w' D P L M n (B + 1) (wr i l s).2 ∧ Dv.Fr3 P L M W w' := by
  have hb : Below W.heap.size W (W.alloc (.cells #[.string X] 9)).drew := ((Below.refl _ _).alloc (Nat.le_refl _) _).drew
  have hp := h.lts.2.1
  subst hX
  refine (write_s (h.below hb) hB i hi hn W.heap.size X (by have := Dv.ba_len X; omega) 1 (Dv.new_cell (W := W) rfl rfl) (by omega)).mono ?_
  rintro x w' ⟨rfl, hd, hf⟩
  exact ⟨rfl, hd, (Dv.Fr3.of_below hb).trans hf⟩
theorem sec_ext (b : ByteArray) (k : Nat) : (b.extract (64 * k) (64 * (k + 1))).data.toList = sec b k := by
  unfold sec
  rw [ByteArray.data_extract, Array.toList_extract]
  simp [List.extract_eq_take_drop]
  congr 1
  omega
theorem sec_le (b : ByteArray) (k : Nat) : (sec b k).length ≤ 64 := by unfold sec; rw [List.length_take]; omega
theorem layK_step {k : Nat} (hk : k < 4) (a : Nat) (b : ByteArray) (s : Ds) : layK (4 - k) a b s = sq (wr (a + k) (sec b k)) (layK (4 - (k + 1)) a b) s := by
  obtain ⟨m, hm⟩ : ∃ m, 4 - k = m + 1 := ⟨3 - k, by omega⟩
  rw [hm, show 4 - (k + 1) = m by omega]
  show sq (wr (a + (4 - (m + 1))) (sec b (4 - (m + 1)))) (layK m a b) s = _
  rw [show 4 - (m + 1) = k by omega]
theorem place_big (no : Nat) (hno : no ≤ 4096) (W : World) : Calls Tryz.prog 37 #[.int .i64 (no : Int)] W fun x w' => x = .returned (.int .i64 ((place no : Nat) : Int)) ∧ W = w' := by
  have h0 : (0 : Int) ≤ (no : Int) := by omega
  have h1 : (no : Int) ≤ 4096 := by omega
  have e : ((place no : Nat) : Int) = 5 + 4 * (no : Int) := by unfold place; omega
  rw [e]
  go_enter Tryz.func37, Tryz.ntmps37
  go_wp2
  go_ret
  exact ⟨rfl, rfl⟩
/-- What a call on pages answers and leaves. -/
def TwP (w W : World) (D P L M n B T pages : Nat) (o : Bool × Ds) (x : Ending) (w' : World) : Prop := x = .returned (.int .i64 (er o.1)) ∧ TwS w w' D P L M n B T pages o.2 ∧ Dv.Fr3 P L M W w'
set_option maxRecDepth 100000 in
set_option maxHeartbeats 4000000 in
theorem lay_s (h : TwS w W D P L M n B T pages s) (hB : B + 5 ≤ 900000) (hn : n ≤ 4096) (a : Nat) (ha : a + 4 ≤ n) (b : ByteArray) (hb : b.size = 256) :
    Calls Tryz.prog 87 #[.pointer (some ⟨T, 0, none⟩), .int .i64 (a : Int), .string b] W (TwP w W D P L M n (B + 5) T pages (layM a b s)) := by
  obtain ⟨O, hO⟩ : ∃ O, layM a b s = O := ⟨_, rfl⟩
  rw [hO]
  have HO : Hid (layK (4 - 0) a b s = O) := hO
  clear hO
  have H0 : Hid (TwS w W D P L M n (B + 0) T pages s) := h
  have F0 : Hid (Dv.Fr3 P L M W W) := Dv.Fr3.refl ..
  have hT := h.tne
  clear h
  go_enter Tryz.func87, Tryz.ntmps87
  go_wp2
  go_loopw [9] (fun i wr => ∃ (k : Nat) (s1 : Ds), k ≤ 4 ∧ i = .int .i64 k ∧ Hid (layK (4 - k) a b s1 = O) ∧ Hid (TwS w wr D P L M n (B + k) T pages s1) ∧ Hid (Dv.Fr3 P L M W wr)) (fun i _ => 4 - (intOf i).toNat)
  case atStart => exact ⟨0, s, Nat.zero_le _, rfl, HO, H0, F0⟩
  case round =>
    obtain ⟨k, s1, hk, rfl, HL, HS, HF⟩ := hrel
    rename World => wa
    clear HO H0 F0
    have hk0 : (0 : Int) ≤ (k : Int) := by omega
    by_cases hlt : k < 4
    · have hk1 : (k : Int) < 4 := by omega
      obtain ⟨j, hj⟩ : ∃ j, j = a + k := ⟨_, rfl⟩
      obtain ⟨q, hq⟩ : ∃ q, q = 64 * k := ⟨_, rfl⟩
      obtain ⟨q2, hq2⟩ : ∃ q, q = 64 * (k + 1) := ⟨_, rfl⟩
      have e0 : IntKind.i64.wrap ((a : Int) + (k : Int)) = (j : Int) := by rw [IntWalk.i64_in _ (by omega)]; omega
      have e1 : IntKind.i64.wrap (64 * (k : Int)) = (q : Int) := by rw [IntWalk.i64_in _ (by omega)]; omega
      have e2 : IntKind.i64.wrap (64 * IntKind.i64.wrap ((k : Int) + 1)) = (q2 : Int) := by rw [IntWalk.i64_in ((k : Int) + 1) (by omega), IntWalk.i64_in _ (by omega)]; omega
      have q0 : (0 : Int) ≤ (q : Int) := by omega
      have q4 : (0 : Int) ≤ (q2 : Int) := by omega
      have q1 : (q : Int) ≤ (q2 : Int) := by omega
      have q3 : (q2 : Int) ≤ (b.size : Int) := by omega
      have hX : (b.extract q q2).data.toList = sec b k := by rw [hq, hq2]; exact sec_ext b k
      have hjn : j < n := by omega
      have HE := Lib.hid (layK_step hlt a b s1)
      rw [← hj] at HE
      have KW := Lib.hid (put1 HS.out.d (by omega) j hjn hn (b.extract q q2) (sec b k) hX (sec_le b k))
      have hcell := HS.out.t0
      clear hX
      cases hw : (wr j (sec b k) s1).1 with
      | false =>
        rw [er_f hw] at KW
        have HL2 : Hid ((false, (wr j (sec b k) s1).2) = O) := by rw [Hid, ← HL.out, HE.out, sq_f hw]
        clear HE HL hw hj hq hq2 hb ha hjn
        go_wp2_with fail
        go_region_held3 (fun w' => w'.cell? ⟨T, 0, none⟩ = some (.pointer (some ⟨D, 0, none⟩)))
          ((repeat (first | with_reducible assumption | with_reducible refine Dv.keep_alloc ?_ | with_reducible refine tw_drew ?_)))
          (first | (go_at_call 53; refine KW.out.mono ?_; rintro x w6 ⟨rfl, hd6, hf6⟩; have hcw6 := hf6.cell hcell hT.1 hT.2.1 hT.2.2))
        have S6 := Lib.hid (HS.out.next hd6 hf6)
        have F6 := Lib.hid (HF.out.trans hf6)
        clear hd6 hf6 HS HF KW
        go_wp2
        go_ret
        exact ⟨by rw [← HL2.out]; rfl, by rw [← HL2.out]; exact S6.out.more (by omega), F6.out⟩
      | true =>
        rw [er_t hw] at KW
        have HL2 : Hid (layK (4 - (k + 1)) a b (wr j (sec b k) s1).2 = O) := by rw [Hid, ← HL.out, HE.out, sq_t hw]
        clear HE HL hw hj hq hq2 hb ha hjn
        go_wp2_with fail
        go_region_held3 (fun w' => w'.cell? ⟨T, 0, none⟩ = some (.pointer (some ⟨D, 0, none⟩)))
          ((repeat (first | with_reducible assumption | with_reducible refine Dv.keep_alloc ?_ | with_reducible refine tw_drew ?_)))
          (first | (go_at_call 53; refine KW.out.mono ?_; rintro x w6 ⟨rfl, hd6, hf6⟩; have hcw6 := hf6.cell hcell hT.1 hT.2.1 hT.2.2))
        have S6 := Lib.hid (HS.out.next hd6 hf6)
        have F6 := Lib.hid (HF.out.trans hf6)
        clear hd6 hf6 HS HF KW hcw6 hcell
        go_wp2
        go_roundw
        case rel => exact ⟨k + 1, _, by omega, by go_num, HL2, S6, F6⟩
        case measure => simp [intOf]; omega
    · have hk4 : k = 4 := by omega
      have hk1 : (4 : Int) ≤ (k : Int) := by omega
      have KS := Lib.hid (sync_s HS.out.d (by omega))
      have HL2 : Hid (sy s1 = O) := by have := HL.out; rw [hk4] at this; exact this
      have hcell := HS.out.t0
      clear HL
      go_wp2_with fail
      refine KS.out.mono ?_
      rintro x w6 ⟨rfl, hd6, hf6⟩
      have S6 := Lib.hid (HS.out.next hd6 hf6)
      have F6 := Lib.hid (HF.out.trans hf6)
      clear hd6 hf6 HS HF KS hcell
      go_wp2
      go_ret
      exact ⟨by rw [← HL2.out]; rfl, by rw [← HL2.out]; exact S6.out.more (by omega), F6.out⟩
end
end Go.Proofs.YtkemhkmabbladaaGreatDoor
