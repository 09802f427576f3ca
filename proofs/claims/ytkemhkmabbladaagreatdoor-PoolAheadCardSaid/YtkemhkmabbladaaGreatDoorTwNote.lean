/-
  THE CONTRACTS OF twice's note and settle.
-/
import Derived.Test.YtkemhkmabbladaaGreatDoorTwLay
import Derived.Test.YtkemhkmabbladaaGreatDoorTpLaidOk
namespace Go.Proofs.YtkemhkmabbladaaGreatDoor
open Go.RowKit
section
variable {w W : World} {D P L M n B T pages : Nat} {s : Ds}
theorem put_note (k : Nat) (hk : k ≤ 64) (W : World) (g : Nat) (hc : W.cell? ⟨g, 0, none⟩ = some (.int .i64 (k : Int))) :
    Calls Tryz.prog 100 #[.int .i64 1, .slice (some ⟨g, 0, none⟩) 1 1] W fun e w' => e = .returned (.string (bstr (noteL k))) ∧ Below W.heap.size W w' := by
  have h := put_one 1 (k : Int) (by omega) (WalkArith.wf_i64 (by omega)) W g hc
  rw [show (1 : Int) = ((1 : Nat) : Int) from rfl, put_size 1 (k : Int) (by omega) (by omega) (by unfold fitsN; simp; omega), Int.toNat_natCast] at h
  exact h
theorem put1a (h : DvS W D P L M n B s) (hB : B ≤ 900000) (i : Nat) (hi : i < n) (hn : n ≤ 4096) (X : ByteArray) (l : List UInt8) (hX : X.data.toList = l) (hl : l.length ≤ 64) :
    Calls Tryz.prog 53 #[.pointer (some ⟨D, 0, none⟩), .int .i64 (i : Int), .slice (some ⟨W.heap.size, 0, none⟩) 1 1] (W.alloc (.cells #[.string X] 9))
      fun x w' => x = .returned (.int .i64 (er (wr i l s).1)) ∧ DvS w' D P L M n (B + 1) (wr i l s).2 ∧ Dv.Fr3 P L M W w' := by
  have hb : Below W.heap.size W (W.alloc (.cells #[.string X] 9)) := (Below.refl _ _).alloc (Nat.le_refl _) _
  have hp := h.lts.2.1
  subst hX
  refine (write_s (h.below hb) hB i hi hn W.heap.size X (by have := Dv.ba_len X; omega) 1 (Dv.new_cell (W := W) rfl rfl) (by omega)).mono ?_
  rintro x w' ⟨rfl, hd, hf⟩
  exact ⟨rfl, hd, (Dv.Fr3.of_below hb).trans hf⟩
theorem bstr_data' (l : List UInt8) : (bstr l).data.toList = l := by unfold bstr; simp
theorem note_len (k : Nat) : (noteL k).length = 1 := be_len 1 k
set_option maxRecDepth 100000 in
set_option maxHeartbeats 4000000 in
theorem note_s (h : TwS w W D P L M n B T pages s) (hB : B + 2 ≤ 900000) (hn : n ≤ 4096) (h1 : 1 ≤ n) (k : Nat) (hk : k ≤ 64) :
    Calls Tryz.prog 88 #[.pointer (some ⟨T, 0, none⟩), .int .i64 (k : Int)] W (TwP w W D P L M n (B + 2) T pages (noteM k s)) := by
  have KP := Lib.hid (fun W g hc => put_note k hk W g hc)
  have KW := Lib.hid (fun W1 (hb : Below W.heap.size W W1) => put1a (h.d.below hb) (by omega) 0 (by omega) hn (bstr (noteL k)) (noteL k) (bstr_data' _) (by rw [note_len]; omega))
  have H := Lib.hid h
  have hcell := h.t0
  have hT := h.tne
  have hz0 : ((0 : Nat) : Int) = 0 := rfl
  rw [hz0] at KW
  clear h hz0
  cases hw : (wr 0 (noteL k) s).1 with
  | false =>
    rw [er_f hw] at KW
    have HO : Hid (noteM k s = (false, (wr 0 (noteL k) s).2)) := by rw [Hid]; unfold noteM; rw [sq_f hw]
    clear hw
    generalize bstr (noteL k) = X at *
    go_enter Tryz.func88, Tryz.ntmps88
    go_wp2_with fail
    go_region_held3 (fun w' => w'.cell? ⟨T, 0, none⟩ = some (.pointer (some ⟨D, 0, none⟩)))
      ((repeat (first | with_reducible assumption | with_reducible refine Dv.keep_alloc ?_ | with_reducible refine tw_drew ?_ | with_reducible refine Dv.keep_cell (by assumption) ?_)))
      (first
        | (go_at_call 100; refine (KP.out _ _ ?_).mono ?_; (focus ((repeat (first | (with_reducible refine Dv.new_cell ?_ ?_ <;> first | rfl | (simp; done)) | with_reducible refine Dv.keep_alloc ?_ | with_reducible refine tw_drew ?_)); done)); rintro x w95 ⟨rfl, hb95⟩)
        | (go_at_call 53; refine (KW.out _ (((Below.refl _ _).alloc (Nat.le_refl _) _).drew.trans (hb95.mono (by simp)))).mono ?_; rintro x w6 ⟨rfl, hd6, hf6⟩; have hf7 := (Dv.Fr3.of_below (P := P) (L := L) (M := M) (((Below.refl _ _).alloc (Nat.le_refl _) _).drew.trans (hb95.mono (by simp)))).trans hf6; have hcw6 := hf7.cell hcell hT.1 hT.2.1 hT.2.2))
    have S6 := Lib.hid (H.out.next hd6 hf7)
    have F6 := Lib.hid hf7
    clear hd6 hf6 hf7 H KW
    go_wp2
    go_ret
    exact ⟨by rw [HO.out]; rfl, by rw [HO.out]; exact S6.out.more (by omega), F6.out⟩
  | true =>
    rw [er_t hw] at KW
    have HO : Hid (noteM k s = sy (wr 0 (noteL k) s).2) := by rw [Hid]; unfold noteM; rw [sq_t hw]
    clear hw
    generalize bstr (noteL k) = X at *
    go_enter Tryz.func88, Tryz.ntmps88
    go_wp2_with fail
    go_region_held3 (fun w' => w'.cell? ⟨T, 0, none⟩ = some (.pointer (some ⟨D, 0, none⟩)))
      ((repeat (first | with_reducible assumption | with_reducible refine Dv.keep_alloc ?_ | with_reducible refine tw_drew ?_ | with_reducible refine Dv.keep_cell (by assumption) ?_)))
      (first
        | (go_at_call 100; refine (KP.out _ _ ?_).mono ?_; (focus ((repeat (first | (with_reducible refine Dv.new_cell ?_ ?_ <;> first | rfl | (simp; done)) | with_reducible refine Dv.keep_alloc ?_ | with_reducible refine tw_drew ?_)); done)); rintro x w95 ⟨rfl, hb95⟩)
        | (go_at_call 53; refine (KW.out _ (((Below.refl _ _).alloc (Nat.le_refl _) _).drew.trans (hb95.mono (by simp)))).mono ?_; rintro x w6 ⟨rfl, hd6, hf6⟩; have hf7 := (Dv.Fr3.of_below (P := P) (L := L) (M := M) (((Below.refl _ _).alloc (Nat.le_refl _) _).drew.trans (hb95.mono (by simp)))).trans hf6; have hcw6 := hf7.cell hcell hT.1 hT.2.1 hT.2.2))
    have S6 := Lib.hid (H.out.next hd6 hf7)
    have F6 := Lib.hid hf7
    clear hd6 hf6 hf7 H KW
    have KS := Lib.hid (sync_s S6.out.d (by omega))
    go_wp2_with fail
    refine KS.out.mono ?_
    rintro x w7 ⟨rfl, hd7, hf7⟩
    have S7 := Lib.hid (S6.out.next hd7 hf7)
    have F7 := Lib.hid (F6.out.trans hf7)
    clear hd7 hf7 S6 F6 KS
    go_wp2
    go_ret
    exact ⟨by rw [HO.out]; rfl, by rw [HO.out]; exact S7.out.more (by omega), F7.out⟩
set_option maxRecDepth 100000 in
set_option maxHeartbeats 4000000 in
theorem settle_s (h : TwS w W D P L M n B T pages s) (hB : B + 7 ≤ 900000) (hn : n ≤ 4096) (no : Nat) (hno : place no + 4 ≤ n) (b : ByteArray) (hb : b.size = 256) :
    Calls Tryz.prog 68 #[.pointer (some ⟨T, 0, none⟩), .int .i64 (no : Int), .string b] W (TwP w W D P L M n (B + 7) T pages (settleM no b s)) := by
  have hno2 : no ≤ 4096 := by unfold place at hno; omega
  have KPl := Lib.hid (fun W => place_big no hno2 W)
  have KL := Lib.hid (lay_s h (by omega) hn (place no) hno b hb)
  have HE : Hid (settleM no b s = sq (layM (place no) b) (noteM 0) s) := rfl
  have h1 : 1 ≤ n := by omega
  clear h hb hno hno2
  generalize place no = at1 at *
  cases hw : (layM at1 b s).1 with
  | false =>
    have HO : Hid (settleM no b s = (false, (layM at1 b s).2)) := by rw [Hid, HE.out, sq_f hw]
    have KL2 := KL.out
    unfold TwP at KL2
    rw [er_f hw] at KL2
    have KL := Lib.hid KL2
    clear hw HE KL2
    go_enter Tryz.func68, Tryz.ntmps68
    go_wp2_with fail
    refine (KPl.out _).mono ?_
    rintro x w1 ⟨rfl, rfl⟩
    go_wp2_with fail
    refine KL.out.mono ?_
    rintro x w2 ⟨rfl, hs2, hf2⟩
    have S2 := Lib.hid hs2
    have F2 := Lib.hid hf2
    clear hs2 hf2 KL KPl
    go_wp2
    go_ret
    exact ⟨by rw [HO.out]; rfl, by rw [HO.out]; exact S2.out.more (by omega), F2.out⟩
  | true =>
    have HO : Hid (settleM no b s = noteM 0 (layM at1 b s).2) := by rw [Hid, HE.out, sq_t hw]
    have KL2 := KL.out
    unfold TwP at KL2
    rw [er_t hw] at KL2
    have KL := Lib.hid KL2
    clear hw HE KL2
    go_enter Tryz.func68, Tryz.ntmps68
    go_wp2_with fail
    refine (KPl.out _).mono ?_
    rintro x w1 ⟨rfl, rfl⟩
    go_wp2_with fail
    refine KL.out.mono ?_
    rintro x w2 ⟨rfl, hs2, hf2⟩
    have KN := Lib.hid (note_s hs2 (by omega) hn h1 0 (by omega))
    have hz0 : ((0 : Nat) : Int) = 0 := rfl
    rw [hz0] at KN
    have F2 := Lib.hid hf2
    clear hs2 hf2 KL KPl hz0
    go_wp2_with fail
    refine KN.out.mono ?_
    rintro x w3 ⟨rfl, hs3, hf3⟩
    have S3 := Lib.hid hs3
    have F3 := Lib.hid (F2.out.trans hf3)
    clear hs3 hf3 KN F2
    go_wp2
    go_ret
    exact ⟨by rw [HO.out]; rfl, by rw [HO.out]; exact S3.out.more (by omega), F3.out⟩
end
end Go.Proofs.YtkemhkmabbladaaGreatDoor
