/-
  WHAT IS NEEDED OF THE DEVICE'S TEXTS, AS FAR AS THIS SEAT HAS ITS FUNCTIONS (put together by wip/only-there.py).
-/
import Derived.Test.YtpoagfldekppkaaDoorPtState
import Derived.Test.YtpoagfldekppkaaDoorPtArgs
namespace Go.Proofs.YtpoagfldekppkaaDoor
open Go.RowKit
abbrev aggOf (q : Hd5) : Value := .agg #[.int .i64 q.1, .int .i64 q.2.1, .int .i64 q.2.2.1, .int .i64 q.2.2.2.1, .int .i64 q.2.2.2.2]
/-- A device that lost its power, or is to be crashed; a device that is up again. -/
def Fell (W : World) (D P L M : Nat) (now q : Hd5) : Prop := ∃ kk off uses armed left las f, Dv.DevAt W D P L M 2 kk off uses armed left las f ∧ (∀ z l, f z = some l → 0 ≤ z ∧ z < ((2 : Nat) : Int) ∧ l.length = 64) ∧ ∀ ks, Kp (Dv.keepLas f las ks) now ∨ Kp (Dv.keepLas f las ks) q
def Up (W : World) (D P L M : Nat) (now q : Hd5) : Prop := ∃ kk uses left las, Dv.DevAt W D P L M 2 kk false uses false left las (fun _ => none) ∧ (Kp las now ∨ Kp las q)
/-- A device that keeps a head, armed. -/
def Live (W : World) (D P L M : Nat) (left : Int) (b : Nat) (now : Hd5) : Prop := ∃ kk uses las, Dv.DevAt W D P L M 2 kk false uses true left las (fun _ => none) ∧ kk ≤ b ∧ (0 ≤ uses ∧ uses ≤ 2 * (b : Int)) ∧ Kp las now
section
variable {D P L M : Nat} {W : World}
theorem dev_len {n k : Nat} {off : Bool} {uses : Int} {armed : Bool} {left : Int} {las : List (List UInt8)} {f : Int → Option (List UInt8)} (h : Dv.DevAt W D P L M n k off uses armed left las f) : las.length = n := h.ll
theorem Up.below {X : World} {now q : Hd5} (h : Up W D P L M now q) (hb : Below W.heap.size W X) : Up X D P L M now q := by
  obtain ⟨kk, uses, left, las, hd, hk⟩ := h
  exact ⟨kk, uses, left, las, hd.below hb, hk⟩
theorem Fell.below {X : World} {now q : Hd5} (h : Fell W D P L M now q) (hb : Below W.heap.size W X) : Fell X D P L M now q := by
  obtain ⟨kk, off, uses, armed, left, las, f, hd, hk⟩ := h
  exact ⟨kk, off, uses, armed, left, las, f, hd.below hb, hk⟩
theorem Live.below {X : World} {left : Int} {b : Nat} {now : Hd5} (h : Live W D P L M left b now) (hb : Below W.heap.size W X) : Live X D P L M left b now := by
  obtain ⟨kk, uses, las, hd, hk⟩ := h
  exact ⟨kk, uses, las, hd.below hb, hk⟩
theorem Live.fell {left : Int} {b : Nat} {now : Hd5} (h : Live W D P L M left b now) : Fell W D P L M now now := by
  obtain ⟨kk, uses, las, hd, _, _, hk⟩ := h
  exact ⟨kk, false, uses, true, left, las, _, hd, fun z l e => (by cases e), fun ks => .inl (by rw [keep_none]; exact hk)⟩
theorem c_load {now q : Hd5} (h : Up W D P L M now q) (ht : Tab W) :
    Calls Tryd.prog 23 #[.pointer (some ⟨D, 0, none⟩), .int .i64 0] W fun x w' => ∃ g, (g = now ∨ g = q) ∧ x = .returned (.tuple #[aggOf g, .int .i64 0]) ∧ Below W.heap.size W w' := by
  obtain ⟨kk, uses, left, las, hd, hk⟩ := h
  have hl := load_any W hd 0 (by omega) (by omega) (fun z l e => by cases e) ht
  rcases hk with hk | hk
  · rw [load_kept hk] at hl
    exact hl.mono fun x w' hx => ⟨now, .inl rfl, hx.1, hx.2⟩
  · rw [load_kept hk] at hl
    exact hl.mono fun x w' hx => ⟨q, .inr rfl, hx.1, hx.2⟩
theorem c_crash {now q : Hd5} (h : Fell W D P L M now q) (ka : Option Addr) (ks : List Int) (c : Nat) (hl : ks.length ≤ 1000) (hw : ∀ z ∈ ks, (Lit.int .i64 z).wf = true) (hka : Dv.IntsIn W ka L ks) :
    Calls Tryd.prog 17 #[.pointer (some ⟨D, 0, none⟩), .slice ka ks.length c] W fun x w' => x = .returned (.tuple #[]) ∧ Up w' D P L M now q ∧ Dv.Fr3 P L M W w' := by
  obtain ⟨kk, off, uses, armed, left, las, f, hd, hf, hk⟩ := h
  refine (Dv.crash_fr (B := 0) hd hf ⟨Nat.zero_le _, Nat.zero_le _, Nat.zero_le _⟩ (Nat.zero_le _) ka ks c (by omega) hw hka).mono ?_
  rintro x w' ⟨rfl, hd2, _, hf2⟩
  exact ⟨rfl, ⟨kk, uses, left, _, hd2, hk ks⟩, hf2⟩
theorem c_save {left : Int} {b : Nat} {now : Hd5} (h : Live W D P L M left b now) (hb : b ≤ 1000) (hl : 1 < left ∧ left ≤ 100) (ht : Tab W) (e c st m : Int) (ho : hdOk now.1 e c st m = true) (ho2 : hdOk (now.1 + 1) e c st m = true) :
    Calls Tryd.prog 18 #[.pointer (some ⟨D, 0, none⟩), .int .i64 0, .agg #[.int .i64 now.1, .int .i64 e, .int .i64 c, .int .i64 st, .int .i64 m]] W
      fun x w' => x = .returned (.tuple #[.agg #[.int .i64 (now.1 + 1), .int .i64 e, .int .i64 c, .int .i64 st, .int .i64 m], .int .i64 0]) ∧ Live w' D P L M (left - 1 - 1) (b + 1) (now.1 + 1, e, c, st, m) ∧ Dv.Fr3 P L M W w' := by
  obtain ⟨kk, uses, las, hd, hk, hu, hp⟩ := h
  refine (save_yes W hd (by omega) (fun _ => ⟨by omega, by omega⟩) (by omega) 0 (by omega) (by omega) (fun z l e => by cases e) ht now.1 e c st m ho ho2).mono ?_
  rintro x w' ⟨rfl, las2, hd2, hl2, hf2⟩
  exact ⟨rfl, ⟨kk + 1, uses + 1 + 1, las2, hd2, by omega, by omega, hp.next (q := (now.1 + 1, e, c, st, m)) ho2 rfl hl2⟩, hf2⟩
theorem c_fail {left : Int} {b : Nat} {now : Hd5} (h : Live W D P L M left b now) (hb : b ≤ 1000) (hl : left = 0 ∨ left = 1) (ht : Tab W) (e c st m : Int) (ho : hdOk now.1 e c st m = true) (ho2 : hdOk (now.1 + 1) e c st m = true) :
    Calls Tryd.prog 18 #[.pointer (some ⟨D, 0, none⟩), .int .i64 0, .agg #[.int .i64 now.1, .int .i64 e, .int .i64 c, .int .i64 st, .int .i64 m]] W
      fun x w' => x = .returned (.tuple #[.agg #[.int .i64 0, .int .i64 0, .int .i64 0, .int .i64 0, .int .i64 0], .int .i64 6]) ∧ Fell w' D P L M now (now.1 + 1, e, c, st, m) ∧ Dv.Fr3 P L M W w' := by
  obtain ⟨kk, uses, las, hd, hk, hu, hp⟩ := h
  rcases hl with rfl | rfl
  · refine (save_last W hd (by omega) 0 (by omega) (by omega) ht now.1 e c st m ho ho2).mono ?_
    rintro x w' ⟨rfl, hd2, hf2⟩
    exact ⟨rfl, ⟨_, _, _, _, _, las, _, hd2, fun z l e => (by cases e), fun ks => .inl (by rw [keep_none]; exact hp)⟩, hf2⟩
  · refine (save_mid W hd (by omega) (by omega) 0 (by omega) (by omega) ht now.1 e c st m ho ho2).mono ?_
    rintro x w' ⟨rfl, hd2, hf2⟩
    exact ⟨rfl, ⟨_, _, _, _, _, las, looseOf (now.1 + 1, e, c, st, m), hd2, looseOf_ok ho2, fun ks => hp.crash (q := (now.1 + 1, e, c, st, m)) (dev_len hd) ho2 rfl ks⟩, hf2⟩
theorem arm_any {n k : Nat} {uses left : Int} {las : List (List UInt8)} {f : Int → Option (List UInt8)} {off armed : Bool} (h : Dv.DevAt W D P L M n k off uses armed left las f) (j : Int) (hj : 0 ≤ j ∧ j ≤ 1000) :
    Calls Tryd.prog 16 #[.pointer (some ⟨D, 0, none⟩), .int .i64 j] W fun e w' => e = .returned (.tuple #[]) ∧ Dv.DevAt w' D P L M n k off uses true j las f ∧ Dv.Fr3 P L M W w' := by
  have HA : Hid (Dv.DevAt ((W.setCell ⟨P, 2, none⟩ (.bool true)).setCell ⟨P, 3, none⟩ (.int .i64 j)) D P L M n k off uses true j las f) := (h.pow.2.2.1 true).pow.2.2.2 j
  have KA : Hid (Calls Tryd.prog 24 #[.pointer (some ⟨P, 0, none⟩), .int .i64 j] W fun e w' => e = .returned (.tuple #[]) ∧ w' = (W.setCell ⟨P, 2, none⟩ (.bool true)).setCell ⟨P, 3, none⟩ (.int .i64 j)) := by
    have h2 := h.p2
    have h3 : ∀ v, (W.setCell ⟨P, 2, none⟩ v).cell? ⟨P, 3, none⟩ = some (.int .i64 left) := fun v => by
      rw [World.cell?_setCell_other _ _ _ _ (fun e => by injection e with _ e2; cases e2)]; exact h.p3
    have hf := h.pf
    have hmax : max j 0 = j := by omega
    clear h
    go_enter Tryd.func24, Tryd.ntmps24
    go_wp2
    exact bodyPost_end (v := .tuple #[]) (by simp [results, Tryd.results24]) rfl ⟨rfl, rfl⟩
  have hd := h.d0
  clear h
  go_enter Tryd.func16, Tryd.ntmps16
  go_wp2_with fail
  refine KA.out.mono ?_
  rintro e w' ⟨rfl, rfl⟩
  have HB := HA.out
  have HF : Hid (Dv.Fr3 P L M W ((W.setCell ⟨P, 2, none⟩ (.bool true)).setCell ⟨P, 3, none⟩ (.int .i64 j))) := Dv.Fr3.two
  generalize (W.setCell ⟨P, 2, none⟩ (.bool true)).setCell ⟨P, 3, none⟩ (.int .i64 j) = X at *
  have HB := Lib.hid HB
  clear hd
  go_wp2
  exact bodyPost_end (v := .tuple #[]) (by simp [results, Tryd.results16]) rfl ⟨rfl, HB.out, HF.out⟩
theorem fell_keeps {A B : Nat} {now q : Hd5} (hA : A ≠ D ∧ A ≠ P ∧ A ≠ L ∧ A ≠ M) (hB : D < B ∧ P < B ∧ L < B ∧ M < B) : Keeps A B (fun X => Fell X D P L M now q) where
  set := fun X b' i v hb h => by
    obtain ⟨kk, off, uses, armed, left, las, f, hd, hk⟩ := h
    exact ⟨kk, off, uses, armed, left, las, f, dev_set hd (by rcases hb with rfl | hb <;> omega), hk⟩
  below := fun X Y h hb => h.below hb
/-- Open behind a crash: the point that was kept, or the one that was under way. -/
theorem p_open {lo1 nx1 s1 lo2 nx2 s2 : Int} (h : Up W D P L M (s1, 0, nx1, lo1, 0) (s2, 0, nx2, lo2, 0)) (ht : Tab W) :
    Calls Tryd.prog 15 #[.pointer (some ⟨D, 0, none⟩)] W fun x w' => OpYes W (some ⟨D, 0, none⟩) lo1 nx1 s1 x w' ∨ OpYes W (some ⟨D, 0, none⟩) lo2 nx2 s2 x w' := by
  obtain ⟨kk, uses, left, las, hd, hk⟩ := h
  rcases hk with hk | hk
  · refine (open_yes lo1 nx1 s1 (Lib.hid fun X hX => ?_)).mono fun x w' hx => .inl hx
    have hl := load_any X (hd.below hX) 0 (by omega) (by omega) (fun z l e => by cases e) (ht.below hX)
    rw [load_kept hk] at hl
    exact hl
  · refine (open_yes lo2 nx2 s2 (Lib.hid fun X hX => ?_)).mono fun x w' hx => .inr hx
    have hl := load_any X (hd.below hX) 0 (by omega) (by omega) (fun z l e => by cases e) (ht.below hX)
    rw [load_kept hk] at hl
    exact hl
/-- Keep, the power going off within it. -/
theorem pt_off {w : World} {A b : Nat} {left lo nx sq : Int} (h : Pt w W A D P L M 2 true left b lo nx sq) (ht : Tab w) (hb1 : b ≤ 1000) (hsq : sq ≤ 1000) (hle : left = 0 ∨ left = 1) (pl pn : Int) (hl : ¬ pl < lo) (hn : ¬ pn < nx) (hs : ¬ (pl = lo ∧ pn = nx)) (hb : (0 ≤ pn ∧ pn ≤ 4611686018427387903) ∧ (0 ≤ pl ∧ pl ≤ 4611686018427387903)) :
    Calls Tryd.prog 14 #[.pointer (some ⟨A, 0, none⟩), .agg #[.int .i64 pl, .int .i64 pn]] W fun x w' => x = .returned (.int .i64 6) ∧ Fell w' D P L M (sq, 0, nx, lo, 0) (sq + 1, 0, pn, pl, 0) ∧ Fr4 P L M A W w' := by
  have ok := h.ok
  refine k_diff h pl pn hl hn hs fun X hX => ?_
  have hp := h.below hX
  have hlt := hp.l.lts
  have ho := small_ok (sq := sq) ⟨by omega, by omega⟩ hb.1 hb.2
  have ho2 := small_ok (sq := sq + 1) ⟨by omega, by omega⟩ hb.1 hb.2
  refine (save_no6 (Q := fun Y => Fell Y D P L M (sq, 0, nx, lo, 0) (sq + 1, 0, pn, pl, 0)) (P := P) (L := L) (M := M) hp.m ⟨h.ne.2.1, h.ne.2.2.1, h.ne.2.2.2⟩ ⟨hlt.2.1, hlt.2.2.1, hlt.2.2.2⟩ pl pn (fell_keeps h.ne hlt) (Lib.hid fun Y hY => ?_)).mono ?_
  · have hq := hp.below hY
    have hL : Live Y D P L M left b (sq, 0, nx, lo, 0) := hq.l
    exact c_fail hL hb1 hle (ht.below hq.bw) 0 pn pl 0 ho ho2
  · rintro x w' ⟨rfl, _, hl2, hf⟩
    exact ⟨rfl, hl2, (Fr4.of_below hX).trans hf⟩
/-- Arm. -/
theorem pt_arm {w : World} {A b : Nat} {lo nx sq : Int} (h : Pt w W A D P L M 2 false 0 b lo nx sq) (j : Int) (hj : 0 ≤ j ∧ j ≤ 1000) :
    Calls Tryd.prog 16 #[.pointer (some ⟨D, 0, none⟩), .int .i64 j] W fun e w' => e = .returned (.tuple #[]) ∧ Pt w w' A D P L M 2 true j b lo nx sq := by
  obtain ⟨kk, uses, las, hd, hk⟩ := h.l
  refine (arm_any hd j hj).mono ?_
  rintro x w' ⟨rfl, hd2, hf⟩
  exact ⟨rfl, h.next (h.m.fr3 hf h.ne.2) ⟨kk, uses, las, hd2, hk⟩ (.of3 hf)⟩
end
end Go.Proofs.YtpoagfldekppkaaDoor
