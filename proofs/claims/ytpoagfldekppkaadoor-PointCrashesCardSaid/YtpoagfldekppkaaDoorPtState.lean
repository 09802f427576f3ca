/-
  A MASTER AND ITS DEVICE AS ONE STATE, and the contracts over it: Format, Keep, Open, Point.
-/
import Derived.Test.YtpoagfldekppkaaDoorPtKeep
namespace Go.Proofs.YtpoagfldekppkaaDoor
open Go.RowKit
theorem dv_uses {W : World} {D P L M n k : Nat} {off : Bool} {uses : Int} {armed : Bool} {left : Int} {las : List (List UInt8)} {f : Int → Option (List UInt8)} (h : Dv.DevAt W D P L M n k off uses armed left las f) :
    Calls Tryd.prog 12 #[.pointer (some ⟨D, 0, none⟩)] W fun e w' => e = .returned (.int .i64 uses) ∧ W = w' := by
  have hd := h.d0
  have KP : Hid (Calls Tryd.prog 22 #[.pointer (some ⟨P, 0, none⟩)] W fun e w' => e = .returned (.int .i64 uses) ∧ W = w') := by
    have hp := h.p1
    show Calls _ _ _ _ _
    clear h hd
    go_enter Tryd.func22, Tryd.ntmps22
    go_wp2
    go_ret
    exact ⟨rfl, rfl⟩
  clear h
  go_enter Tryd.func12, Tryd.ntmps12
  go_wp2_with fail
  refine KP.out.mono ?_
  rintro e w1 ⟨rfl, rfl⟩
  go_wp2
  go_ret
  exact ⟨rfl, rfl⟩
theorem tab_low {w : World} (h : Tab w) : 2 < w.heap.size := blk_of (h 0 (by omega))
theorem small_ok {sq nx lo : Int} (h : 0 ≤ sq ∧ sq ≤ 2147483647) (h1 : 0 ≤ nx ∧ nx ≤ 4611686018427387903) (h2 : 0 ≤ lo ∧ lo ≤ 4611686018427387903) : hdOk sq 0 nx lo 0 = true := by
  unfold hdOk inHd
  simp
  omega
theorem small_no {sq nx lo : Int} (h : ¬ ((0 ≤ nx ∧ nx ≤ 4611686018427387903) ∧ (0 ≤ lo ∧ lo ≤ 4611686018427387903))) : hdOk sq 0 nx lo 0 = false := by
  unfold hdOk inHd
  simp
  omega
/-- A master, its device, the table; what was there ahead of them stays. -/
structure Pt (w W : World) (A D P L M n : Nat) (armed : Bool) (left : Int) (b : Nat) (lo nx sq : Int) : Prop where
  m : MsAt W A lo nx (some ⟨D, 0, none⟩) sq
  l : LvN W D P L M n armed left b (sq, 0, nx, lo, 0)
  ne : A ≠ D ∧ A ≠ P ∧ A ≠ L ∧ A ≠ M
  bw : Below w.heap.size w W
  lo' : w.heap.size ≤ P ∧ w.heap.size ≤ L ∧ w.heap.size ≤ M ∧ w.heap.size ≤ A
section
variable {w W : World} {A D P L M n b : Nat} {armed : Bool} {left lo nx sq : Int}
theorem Pt.below {X : World} (h : Pt w W A D P L M n armed left b lo nx sq) (hb : Below W.heap.size W X) : Pt w X A D P L M n armed left b lo nx sq :=
  ⟨h.m.below hb, h.l.below hb, h.ne, h.bw.trans (hb.mono h.bw.size), h.lo'⟩
theorem Pt.next {X : World} {armed' : Bool} {left' : Int} {b' : Nat} {lo2 nx2 sq2 : Int} (h : Pt w W A D P L M n armed left b lo nx sq) (hm : MsAt X A lo2 nx2 (some ⟨D, 0, none⟩) sq2) (hl : LvN X D P L M n armed' left' b' (sq2, 0, nx2, lo2, 0)) (hf : Fr4 P L M A W X) :
    Pt w X A D P L M n armed' left' b' lo2 nx2 sq2 := ⟨hm, hl, h.ne, h.bw.trans (hf.below h.bw.size h.lo'), h.lo'⟩
theorem Pt.ok (h : Pt w W A D P L M n armed left b lo nx sq) : (0 ≤ nx ∧ nx ≤ 4611686018427387903) ∧ (0 ≤ lo ∧ lo ≤ 4611686018427387903) ∧ 1 ≤ sq := by
  obtain ⟨kk, uses, las, _, _, _, hk⟩ := h.l
  obtain ⟨_, _, h1, h2, _⟩ := hdOk_parts hk.ok
  exact ⟨h1, h2, hk.pos⟩
/-- head.Load of a device that keeps a head. -/
theorem l_load {now : Hd5} (h : LvN W D P L M n armed left b now) (hn : 2 ≤ n ∧ n ≤ 4096) (ht : Tab W) :
    Calls Tryd.prog 23 #[.pointer (some ⟨D, 0, none⟩), .int .i64 0] W fun x w' => x = .returned (.tuple #[agH now, .int .i64 0]) ∧ Below W.heap.size W w' := by
  obtain ⟨kk, uses, las, hd, _, _, hk⟩ := h
  have hl := load_any W hd 0 (by omega) hn.2 (fun z l e => by cases e) ht
  rw [load_kept hk] at hl
  exact hl
theorem pt_open (h : Pt w W A D P L M n armed left b lo nx sq) (hn : 2 ≤ n ∧ n ≤ 4096) (ht : Tab w) :
    Calls Tryd.prog 15 #[.pointer (some ⟨D, 0, none⟩)] W (OpYes W (some ⟨D, 0, none⟩) lo nx sq) :=
  open_yes lo nx sq (Lib.hid (fun _ hX => l_load (h.l.below hX) hn (ht.below (h.bw.trans (hX.mono h.bw.size)))))
theorem pt_point (h : Pt w W A D P L M n armed left b lo nx sq) :
    Calls Tryd.prog 11 #[.pointer (some ⟨A, 0, none⟩)] W fun x w' => x = .returned (.agg #[.int .i64 lo, .int .i64 nx]) ∧ Below W.heap.size W w' := point_any h.m
theorem pt_low (h : Pt w W A D P L M n armed left b lo nx sq) (pl pn : Int) (hl : pl < lo ∨ pn < nx) :
    Calls Tryd.prog 14 #[.pointer (some ⟨A, 0, none⟩), .agg #[.int .i64 pl, .int .i64 pn]] W fun x w' => x = .returned (.int .i64 1) ∧ Pt w w' A D P L M n armed left b lo nx sq ∧ Fr4 P L M A W w' :=
  (keep_low h.m pl pn hl).mono fun _ _ hx => ⟨hx.1, h.below hx.2, .of_below hx.2⟩
theorem pt_same (h : Pt w W A D P L M n armed left b lo nx sq) :
    Calls Tryd.prog 14 #[.pointer (some ⟨A, 0, none⟩), .agg #[.int .i64 lo, .int .i64 nx]] W fun x w' => x = .returned (.int .i64 0) ∧ Below W.heap.size W w' := keep_same h.m
theorem k_diff (h : Pt w W A D P L M n armed left b lo nx sq) (pl pn : Int) (hl : ¬ pl < lo) (hn : ¬ pn < nx) (hs : ¬ (pl = lo ∧ pn = nx)) {e : Int} {R : World → Prop}
    (KS : ∀ X, Below W.heap.size W X → Calls Tryd.prog 20 #[.pointer (some ⟨A, 0, none⟩), .agg #[.int .i64 pl, .int .i64 pn]] X fun x w' => x = .returned (.int .i64 e) ∧ R w') :
    Calls Tryd.prog 14 #[.pointer (some ⟨A, 0, none⟩), .agg #[.int .i64 pl, .int .i64 pn]] W fun x w' => x = .returned (.int .i64 e) ∧ R w' := by
  by_cases h1 : pl = lo
  · subst h1
    exact keep_diff2 h.m pn hn (fun h2 => hs ⟨rfl, h2⟩) (Lib.hid KS)
  · exact keep_diff1 h.m pl pn hl hn h1 (Lib.hid KS)
theorem pt_bad (h : Pt w W A D P L M n armed left b lo nx sq) (hn2 : 2 ≤ n ∧ n ≤ 4096) (pl pn : Int) (hl : ¬ pl < lo) (hn : ¬ pn < nx) (hb : ¬ ((0 ≤ pn ∧ pn ≤ 4611686018427387903) ∧ (0 ≤ pl ∧ pl ≤ 4611686018427387903))) :
    Calls Tryd.prog 14 #[.pointer (some ⟨A, 0, none⟩), .agg #[.int .i64 pl, .int .i64 pn]] W fun x w' => x = .returned (.int .i64 1) ∧ Pt w w' A D P L M n armed left b lo nx sq ∧ Fr4 P L M A W w' := by
  have ok := h.ok
  refine k_diff h pl pn hl hn (fun hs => hb (by rw [hs.1, hs.2]; exact ⟨ok.1, ok.2.1⟩)) fun X hX => ?_
  have hp := h.below hX
  have hlt := hp.l.lts
  refine (save_no1 (Q := fun Y => LvN Y D P L M n armed left b (sq, 0, nx, lo, 0)) (P := P) (L := L) (M := M) hp.m ⟨h.ne.2.1, h.ne.2.2.1, h.ne.2.2.2⟩ ⟨hlt.2.1, hlt.2.2.1, hlt.2.2.2⟩ pl pn (lv_keeps h.ne hlt) (Lib.hid fun Y hY => ?_)).mono ?_
  · have hq := hp.below hY
    obtain ⟨kk, uses, las, hd, _⟩ := hq.l
    exact (save_bad Y hd 0 (by omega) hn2.2 sq 0 pn pl 0 (small_no hb)).mono fun x w' hx => ⟨hx.1, hq.l.below hx.2, .of_below hx.2⟩
  · rintro x w' ⟨rfl, hm, hl2, hf⟩
    exact ⟨rfl, hp.next hm hl2 hf, (Fr4.of_below hX).trans hf⟩
theorem pt_yes (h : Pt w W A D P L M n armed left b lo nx sq) (ht : Tab w) (hn2 : 2 ≤ n ∧ n ≤ 4096) (hb1 : b ≤ 1000) (hsq : sq ≤ 1000) (hle : armed = true → 1 < left ∧ left ≤ 100) (pl pn : Int) (hl : ¬ pl < lo) (hn : ¬ pn < nx) (hs : ¬ (pl = lo ∧ pn = nx)) (hb : (0 ≤ pn ∧ pn ≤ 4611686018427387903) ∧ (0 ≤ pl ∧ pl ≤ 4611686018427387903)) :
    Calls Tryd.prog 14 #[.pointer (some ⟨A, 0, none⟩), .agg #[.int .i64 pl, .int .i64 pn]] W fun x w' => x = .returned (.int .i64 0) ∧ Pt w w' A D P L M n armed (Dv.nl armed (Dv.nl armed left)) (b + 1) pl pn (sq + 1) ∧ Fr4 P L M A W w' := by
  have ok := h.ok
  refine k_diff h pl pn hl hn hs fun X hX => ?_
  have hp := h.below hX
  have hlt := hp.l.lts
  have ho := small_ok (sq := sq) ⟨by omega, by omega⟩ hb.1 hb.2
  have ho2 := small_ok (sq := sq + 1) ⟨by omega, by omega⟩ hb.1 hb.2
  refine (save_m (Q := fun Y => LvN Y D P L M n armed (Dv.nl armed (Dv.nl armed left)) (b + 1) (sq + 1, 0, pn, pl, 0)) (P := P) (L := L) (M := M) hp.m ⟨h.ne.2.1, h.ne.2.2.1, h.ne.2.2.2⟩ ⟨hlt.2.1, hlt.2.2.1, hlt.2.2.2⟩ pl pn (lv_keeps h.ne hlt) (Lib.hid fun Y hY => ?_)).mono ?_
  · have hq := hp.below hY
    obtain ⟨kk, uses, las, hd, hk1, hu, hk⟩ := hq.l
    refine (save_yes Y hd (by omega) (fun e => by have := hle e; omega) (by omega) 0 (by omega) hn2.2 (fun z l e => by cases e) (ht.below hq.bw) sq 0 pn pl 0 ho ho2).mono ?_
    rintro x w' ⟨rfl, las2, hd2, hl2, hf2⟩
    exact ⟨rfl, ⟨kk + 1, uses + 1 + 1, las2, hd2, by omega, by omega, hk.next (q := (sq + 1, 0, pn, pl, 0)) ho2 rfl (fun j hj => hl2 j (by omega))⟩, hf2⟩
  · rintro x w' ⟨rfl, hm, hl2, hf⟩
    exact ⟨rfl, hp.next hm hl2 hf, (Fr4.of_below hX).trans hf⟩
theorem pt_uses (h : Pt w W A D P L M n armed left b lo nx sq) : ∃ u, W.cell? ⟨P, 1, none⟩ = some (.int .i64 u) ∧
    Calls Tryd.prog 12 #[.pointer (some ⟨D, 0, none⟩)] W fun x w' => x = .returned (.int .i64 u) ∧ W = w' := by
  obtain ⟨kk, uses, las, hd, _⟩ := h.l
  exact ⟨uses, hd.p1, dv_uses hd⟩
/-- A device that is new. -/
theorem format_any (n : Nat) (hn : 2 ≤ n ∧ n ≤ 4096) {w0 : World} (hd : Dv.DevAt W D P L M n 0 false 0 false 0 (List.replicate n Dv.blank64) (fun _ => none)) (ht : Tab w0) (hw : Below w0.heap.size w0 W) (hlo : w0.heap.size ≤ P ∧ w0.heap.size ≤ L ∧ w0.heap.size ≤ M) :
    Calls Tryd.prog 10 #[.pointer (some ⟨D, 0, none⟩)] W fun x w' => ∃ A, x = .returned (.tuple #[.pointer (some ⟨A, 0, none⟩), .int .i64 0]) ∧ Pt w0 w' A D P L M n false 0 1 0 0 1 := by
  have hlt := dev_lts hd
  have hD := dev_D hd
  have HB := Lib.hid ((Below.refl W.heap.size W).alloc (Nat.le_refl _) (.cells #[.int .i64 0, .int .i64 0, .pointer (some ⟨D, 0, none⟩), .int .i64 0] 58))
  have hm0 := MsAt.new W 0 0 (some ⟨D, 0, none⟩) 0 58
  have hd0 := hd.below HB.out
  have hlt0 := dev_lts hd0
  have hD0 := dev_D hd0
  have hneA : W.heap.size ≠ D ∧ W.heap.size ≠ P ∧ W.heap.size ≠ L ∧ W.heap.size ≠ M := ⟨by omega, by omega, by omega, by omega⟩
  have KS := Lib.hid (save_m (Q := fun Y => LvN Y D P L M n false 0 1 (1, 0, 0, 0, 0)) (P := P) (L := L) (M := M) hm0 ⟨hneA.2.1, hneA.2.2.1, hneA.2.2.2⟩ hlt0 0 0 (lv_keeps hneA ⟨hD0, hlt0⟩) (Lib.hid fun Y hY => by
    refine (save_any Y (hd0.below hY) (by omega) (by omega) 0 (by omega) hn.2 (fun z l e => by cases e) ((ht.below hw).below (HB.out.trans (hY.mono HB.out.size))) 0 0 0 0 0 (by decide) (by decide)).mono ?_
    rintro x w' ⟨rfl, las2, hd2, hl2, hf2⟩
    refine ⟨rfl, ⟨1, 2, las2, hd2, by omega, by omega, kp_first ?_ ?_⟩, hf2⟩
    · rw [hl2 0 (by omega)]; show Dv.secAt _ _ _ = _; unfold Dv.secAt Dv.upd; rw [if_neg (by decide)]; simp [List.getD_eq_getElem?_getD, show 0 < n by omega]
    · rw [hl2 1 (by omega)]; rfl))
  have hG := tab_low ht
  have hsz := hw.size
  clear hm0 hd0 hlt0 hD0
  go_enter Tryd.func10, Tryd.ntmps10
  go_wp2_with fail
  refine KS.out.mono ?_
  rintro x w2 ⟨rfl, hm2, hl2, hf2⟩
  have hP2 : Pt w0 w2 W.heap.size D P L M n false 0 1 0 0 1 := ⟨hm2, hl2, hneA, hw.trans ((HB.out.mono hsz).trans (hf2.below (Nat.le_trans hsz HB.out.size) ⟨hlo.1, hlo.2.1, hlo.2.2, hsz⟩)), ⟨hlo.1, hlo.2.1, hlo.2.2, hsz⟩⟩
  have H2 := Lib.hid hP2
  clear hm2 hl2 hf2 hP2 HB KS
  have KA := Lib.hid (alone_m H2.out.m (Lib.hid (fun X hX => l_load (H2.out.l.below hX) hn (ht.below (H2.out.bw.trans (hX.mono H2.out.bw.size))))))
  go_wp2_with fail
  refine KA.out.mono ?_
  rintro x w3 ⟨rfl, hb3⟩
  have H3 := Lib.hid (H2.out.below hb3)
  clear hb3 KA H2
  go_wp2
  go_ret2
  exact ⟨_, rfl, H3.out⟩
theorem format_nil (W : World) (ht : Tab W) :
    Calls Tryd.prog 10 #[.pointer none] W fun x w' => x = .returned (.tuple #[.pointer none, .int .i64 1]) ∧ Below W.heap.size W w' := by
  have hG := tab_low ht
  have HB := Lib.hid ((Below.refl W.heap.size W).alloc (Nat.le_refl _) (.cells #[.int .i64 0, .int .i64 0, .pointer none, .int .i64 0] 58))
  have hm0 := MsAt.new W 0 0 none 0 58
  have KS := Lib.hid (save_no1 (Q := fun Y => Below W.heap.size W Y) (P := 2) (L := 2) (M := 2) hm0 ⟨by omega, by omega, by omega⟩ ⟨Nat.lt_of_lt_of_le hG HB.out.size, Nat.lt_of_lt_of_le hG HB.out.size, Nat.lt_of_lt_of_le hG HB.out.size⟩ 0 0
    ⟨fun X b' i v hb h => h.setCell (p := ⟨b', i, none⟩) (by have := HB.out.size; rcases hb with rfl | hb; exact Nat.le_refl _; exact Nat.le_trans this hb) v, fun X Y h hb => h.trans (hb.mono h.size)⟩
    (Lib.hid fun Y hY => (save_nil 0 0 0 0 0 0 Y (by omega)).mono fun x w' hx => ⟨hx.1, (HB.out.trans (hY.mono HB.out.size)).trans (hx.2.mono (HB.out.trans (hY.mono HB.out.size)).size), .of_below hx.2⟩))
  clear hm0
  go_enter Tryd.func10, Tryd.ntmps10
  go_wp2_with fail
  refine KS.out.mono ?_
  rintro x w2 ⟨rfl, _, hb2, _⟩
  have H2 := Lib.hid hb2
  clear hb2 KS HB
  go_wp2
  go_ret2
  exact ⟨rfl, H2.out⟩
end
end Go.Proofs.YtpoagfldekppkaaDoor
