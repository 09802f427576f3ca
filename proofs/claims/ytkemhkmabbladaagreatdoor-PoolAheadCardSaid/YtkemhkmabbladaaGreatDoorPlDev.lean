/-
  WHAT IS NEEDED OF THE DEVICE'S TEXTS, AS FAR AS THIS SEAT HAS ITS FUNCTIONS (put together by wip/only-there.py).
-/
import Derived.Test.YtkemhkmabbladaaGreatDoorPlHv
namespace Go.Proofs.YtkemhkmabbladaaGreatDoor
open Go.RowKit
/-- How a power stands: off, on, armed with so many uses ahead. -/
inductive Pm where
  | off
  | on
  | arm (j : Nat)
/-- A use: how it stands then, and whether it is on. -/
def Pm.use : Pm → Pm × Bool
  | .off => (.off, false)
  | .on => (.on, true)
  | .arm 0 => (.off, false)
  | .arm (j + 1) => (.arm j, true)
def PmIs : Pm → Bool → Bool → Int → Prop
  | .off, o, _, _ => o = true
  | .on, o, a, _ => o = false ∧ a = false
  | .arm j, o, a, l => o = false ∧ a = true ∧ l = (j : Int) ∧ j ≤ 1000
/-- A device's state. -/
structure Ds where
  pm : Pm
  g : Nat → List UInt8
  f : Int → Option (List UInt8)
def er (b : Bool) : Int := if b then 0 else 6
def wr (i : Nat) (l : List UInt8) (s : Ds) : Bool × Ds := match s.pm.use.2 with
  | true => (true, ⟨s.pm.use.1, s.g, Dv.upd s.f i (some (Dv.pad l))⟩)
  | false => (false, ⟨s.pm.use.1, s.g, s.f⟩)
/-- What a sector reads as. -/
def vw (s : Ds) (j : Nat) : List UInt8 := (s.f j).getD (s.g j)
def sy (s : Ds) : Bool × Ds := match s.pm.use.2 with
  | true => (true, ⟨s.pm.use.1, vw s, fun _ => none⟩)
  | false => (false, ⟨s.pm.use.1, s.g, s.f⟩)
def sq (a b : Ds → Bool × Ds) (s : Ds) : Bool × Ds := match (a s).1 with
  | true => b (a s).2
  | false => (false, (a s).2)
/-- Of which loose sectors a device may have some. -/
def LooseOk (n : Nat) (f : Int → Option (List UInt8)) : Prop := ∀ z l, f z = some l → 0 ≤ z ∧ z < (n : Int) ∧ l.length = 64
/-- A device in memory that has a state; at most so many uses were made of it. -/
def DvS (W : World) (D P L M n B : Nat) (s : Ds) : Prop := ∃ k off uses armed left las, Dv.DevAt W D P L M n k off uses armed left las s.f ∧ (k ≤ B ∧ 0 ≤ uses ∧ uses ≤ (B : Int)) ∧ PmIs s.pm off armed left ∧ (∀ j : Nat, j < n → las.getD j Dv.blank64 = s.g j) ∧ LooseOk n s.f
section
variable {W : World} {D P L M n B : Nat} {s : Ds}
theorem DvS.below {X : World} (h : DvS W D P L M n B s) (hb : Below W.heap.size W X) : DvS X D P L M n B s := by
  obtain ⟨k, off, uses, armed, left, las, hd, r⟩ := h
  exact ⟨k, off, uses, armed, left, las, hd.below hb, r⟩
theorem DvS.more {B' : Nat} (h : DvS W D P L M n B s) (hB : B ≤ B') : DvS W D P L M n B' s := by
  obtain ⟨k, off, uses, armed, left, las, hd, ⟨h1, h2, h3⟩, r⟩ := h
  exact ⟨k, off, uses, armed, left, las, hd, ⟨by omega, by omega, by omega⟩, r⟩
theorem DvS.d0 (h : DvS W D P L M n B s) : W.cell? ⟨D, 0, none⟩ = some (.pointer (some ⟨P, 0, none⟩)) := by
  obtain ⟨k, off, uses, armed, left, las, hd, r⟩ := h
  exact hd.d0
theorem dev_ltD {k : Nat} {off armed : Bool} {uses left : Int} {las : List (List UInt8)} {f : Int → Option (List UInt8)} (h : Dv.DevAt W D P L M n k off uses armed left las f) : D < W.heap.size ∧ P < W.heap.size ∧ L < W.heap.size ∧ M < W.heap.size := by
  refine ⟨Dv.block_lt h.d0, Dv.block_lt h.p0, Dv.blk_lt h.lb, ?_⟩
  have := h.mp
  obtain ⟨_, hM, _⟩ := this
  exact hM.lt
theorem DvS.lts (h : DvS W D P L M n B s) : D < W.heap.size ∧ P < W.heap.size ∧ L < W.heap.size ∧ M < W.heap.size := by
  obtain ⟨k, off, uses, armed, left, las, hd, r⟩ := h
  exact dev_ltD hd
theorem DvS.ne (h : DvS W D P L M n B s) : D ≠ P ∧ D ≠ L ∧ D ≠ M := by
  obtain ⟨k, off, uses, armed, left, las, hd, r⟩ := h
  exact ⟨hd.dp, hd.dl, hd.dm⟩
theorem DvS.ok (h : DvS W D P L M n B s) : LooseOk n s.f := by
  obtain ⟨k, off, uses, armed, left, las, hd, _, _, _, r⟩ := h
  exact r
theorem DvS.len (h : DvS W D P L M n B s) (j : Nat) (hj : j < n) : (s.g j).length = 64 := by
  obtain ⟨k, off, uses, armed, left, las, hd, _, _, hg, _⟩ := h
  rw [← hg j hj]
  exact hd.len64 j
theorem DvS.vlen (h : DvS W D P L M n B s) (j : Nat) (hj : j < n) : (vw s j).length = 64 := by
  unfold vw
  cases hf : s.f (j : Int) with
  | none => exact h.len j hj
  | some l => exact (h.ok _ _ hf).2.2
theorem wr_yes {i : Nat} {l : List UInt8} (h : s.pm.use.2 = true) : wr i l s = (true, ⟨s.pm.use.1, s.g, Dv.upd s.f i (some (Dv.pad l))⟩) := by unfold wr; rw [h]
theorem wr_no {i : Nat} {l : List UInt8} (h : s.pm.use.2 = false) : wr i l s = (false, ⟨s.pm.use.1, s.g, s.f⟩) := by unfold wr; rw [h]
theorem sy_yes (h : s.pm.use.2 = true) : sy s = (true, ⟨s.pm.use.1, vw s, fun _ => none⟩) := by unfold sy; rw [h]
theorem sy_no (h : s.pm.use.2 = false) : sy s = (false, ⟨s.pm.use.1, s.g, s.f⟩) := by unfold sy; rw [h]
theorem strs_one {X : World} {g : Nat} {T : ByteArray} (hg : X.cell? ⟨g, 0, none⟩ = some (.string T)) : Dv.StrsAt X (some ⟨g, 0, none⟩) [T] := .inr ⟨g, 0, rfl, fun j hj => by
  match j, hj with
  | 0, _ => exact hg⟩
theorem useW_keep {b i : Nat} {v : Value} {uses left : Int} {armed : Bool} (hb : b ≠ P) (h : W.cell? ⟨b, i, none⟩ = some v) : (Dv.useW P uses armed left W).cell? ⟨b, i, none⟩ = some v := by
  have o : ∀ {W : World} {j : Nat} {u : Value}, W.cell? ⟨b, i, none⟩ = some v → (W.setCell ⟨P, j, none⟩ u).cell? ⟨b, i, none⟩ = some v := fun hc => by
    rw [World.cell?_setCell_other _ _ _ _ (fun e => by injection e with e _; exact hb e.symm)]; exact hc
  cases armed with
  | true => exact o (o (o h))
  | false => exact o h
theorem upd_ok {f : Int → Option (List UInt8)} (h : LooseOk n f) {i : Nat} (hi : i < n) {l : List UInt8} (hl : l.length ≤ 64) : LooseOk n (Dv.upd f i (some (Dv.pad l))) := by
  intro z m hz
  unfold Dv.upd at hz
  split at hz
  · rename_i e
    injection hz with hz
    subst hz e
    exact ⟨by omega, by omega, Dv.pad_len hl⟩
  · exact h z m hz
/-- What a call of Write leaves. -/
def WrP (W : World) (D P L M n B : Nat) (i : Nat) (l : List UInt8) (s : Ds) (x : Ending) (w' : World) : Prop := x = .returned (.int .i64 (er (wr i l s).1)) ∧ DvS w' D P L M n (B + 1) (wr i l s).2 ∧ Dv.Fr3 P L M W w'
/-- Write, of texts that lie apart from the power. -/
theorem write_st (h : DvS W D P L M n B s) (hB : B ≤ 900000) (i : Nat) (hi : i < n) (hn : n ≤ 4096) (sa : Option Addr) (ss : List ByteArray) (c : Nat) (hs : ss.length ≤ 1000000) (hsa : ∀ uses armed left, Dv.StrsAt (Dv.useW P uses armed left W) sa ss) (hz : ∀ i, (ss.getD i ByteArray.empty).size ≤ 140737488355328) (hfit : (Dv.joined ss).length ≤ 64) :
    Calls Tryz.prog 53 #[.pointer (some ⟨D, 0, none⟩), .int .i64 (i : Int), .slice sa ss.length c] W (WrP W D P L M n B i (Dv.joined ss) s) := by
  obtain ⟨pm, g, f⟩ := s
  obtain ⟨k, off, uses, armed, left, las, hd, ⟨hk, hu0, hu1⟩, hpm, hg, hf⟩ := h
  have hf' := upd_ok hf hi hfit
  cases pm with
  | off =>
    have e : off = true := hpm
    subst e
    refine (Dv.write_off hd (i : Int) (.slice sa ss.length c)).mono ?_
    rintro x w' ⟨rfl, rfl⟩
    exact ⟨rfl, ⟨k, true, uses, armed, left, las, hd, ⟨by omega, by omega, by omega⟩, rfl, hg, hf⟩, Dv.Fr3.refl ..⟩
  | on =>
    obtain ⟨e1, e2⟩ : off = false ∧ armed = false := hpm
    subst e1 e2
    refine (Dv.write_yes hd (by omega) (fun e => by cases e) (by omega) (i : Int) (by omega) hn sa ss c hs (hsa _ _ _) hz hfit).mono ?_
    rintro x w' ⟨rfl, hd2, hfr⟩
    exact ⟨rfl, ⟨k + 1, false, uses + 1, false, left, las, hd2, ⟨by omega, by omega, by omega⟩, ⟨rfl, rfl⟩, hg, hf'⟩, hfr⟩
  | arm j =>
    obtain ⟨e1, e2, e3, hj⟩ : off = false ∧ armed = true ∧ left = (j : Int) ∧ j ≤ 1000 := hpm
    subst e1 e2 e3
    cases j with
    | zero =>
      refine (Dv.write_last hd (by omega) (i : Int) (.slice sa ss.length c)).mono ?_
      rintro x w' ⟨rfl, hd2, hfr⟩
      exact ⟨rfl, ⟨k, true, uses + 1, true, -1, las, hd2, ⟨by omega, by omega, by omega⟩, rfl, hg, hf⟩, hfr⟩
    | succ j =>
      refine (Dv.write_yes hd (by omega) (fun _ => by omega) (by omega) (i : Int) (by omega) hn sa ss c hs (hsa _ _ _) hz hfit).mono ?_
      rintro x w' ⟨rfl, hd2, hfr⟩
      exact ⟨rfl, ⟨k + 1, false, uses + 1, true, _, las, hd2, ⟨by omega, by omega, by omega⟩, ⟨rfl, rfl, by unfold Dv.nl; simp, by omega⟩, hg, hf'⟩, hfr⟩
/-- Write of one text. -/
theorem write_s (h : DvS W D P L M n B s) (hB : B ≤ 900000) (i : Nat) (hi : i < n) (hn : n ≤ 4096) (g : Nat) (T : ByteArray) (hT : T.size ≤ 64) (c : Nat) (hg : W.cell? ⟨g, 0, none⟩ = some (.string T)) (hgP : g ≠ P) :
    Calls Tryz.prog 53 #[.pointer (some ⟨D, 0, none⟩), .int .i64 (i : Int), .slice (some ⟨g, 0, none⟩) 1 c] W (WrP W D P L M n B i T.data.toList s) := by
  have hj : Dv.joined [T] = T.data.toList := by unfold Dv.joined; simp
  have := write_st h hB i hi hn (some ⟨g, 0, none⟩) [T] c (by simp) (fun u a l => strs_one (useW_keep hgP hg)) (fun j => by
    match j with
    | 0 => exact Nat.le_trans (show T.size ≤ 64 from hT) (by decide)
    | j + 1 => show ByteArray.size ByteArray.empty ≤ _; decide) (by rw [hj, Array.length_toList]; exact hT)
  rw [hj] at this
  exact this
/-- Write of no text. -/
theorem write_e (h : DvS W D P L M n B s) (hB : B ≤ 900000) (i : Nat) (hi : i < n) (hn : n ≤ 4096) :
    Calls Tryz.prog 53 #[.pointer (some ⟨D, 0, none⟩), .int .i64 (i : Int), .slice none 0 0] W (WrP W D P L M n B i [] s) :=
  write_st h hB i hi hn none [] 0 (by simp) (fun u a l => .inl rfl) (fun j => by show ByteArray.size ByteArray.empty ≤ _; decide) (by simp [Dv.joined])
def SyPst (W : World) (D P L M n B : Nat) (s : Ds) (x : Ending) (w' : World) : Prop := x = .returned (.int .i64 (er (sy s).1)) ∧ DvS w' D P L M n (B + 1) (sy s).2 ∧ Dv.Fr3 P L M W w'
theorem secAt_vw {las : List (List UInt8)} {j : Nat} (hg : las.getD j Dv.blank64 = s.g j) : Dv.secAt las s.f j = vw s j := by
  unfold Dv.secAt vw
  cases s.f (j : Int) with
  | none => exact hg
  | some l => rfl
theorem none_ok : LooseOk n (fun _ => none) := fun z l e => by cases e
theorem sync_off {k : Nat} {uses left : Int} {las : List (List UInt8)} {f : Int → Option (List UInt8)} {armed : Bool} (h : Dv.DevAt W D P L M n k true uses armed left las f) :
    Calls Tryz.prog 54 #[.pointer (some ⟨D, 0, none⟩)] W fun e w' => e = .returned (.int .i64 6) ∧ W = w' := by
  have KU := Lib.hid (Dv.use_off h)
  have hd := h.d0
  clear h
  go_enter Tryz.func54, Tryz.ntmps54
  go_wp2_with fail
  refine KU.out.mono ?_
  rintro x w1 ⟨rfl, rfl⟩
  go_wp2
  go_ret
  exact ⟨rfl, rfl⟩
theorem sync_s (h : DvS W D P L M n B s) (hB : B ≤ 900000) :
    Calls Tryz.prog 54 #[.pointer (some ⟨D, 0, none⟩)] W (SyPst W D P L M n B s) := by
  obtain ⟨pm, g, f⟩ := s
  obtain ⟨k, off, uses, armed, left, las, hd, ⟨hk, hu0, hu1⟩, hpm, hg, hf⟩ := h
  have hv : ∀ j : Nat, j < n → Dv.secAt las f j = vw ⟨pm, g, f⟩ j := fun j hj => secAt_vw (s := ⟨pm, g, f⟩) (hg j hj)
  cases pm with
  | off =>
    have e : off = true := hpm
    subst e
    refine (sync_off hd).mono ?_
    rintro x w' ⟨rfl, rfl⟩
    exact ⟨rfl, ⟨k, true, uses, armed, left, las, hd, ⟨by omega, by omega, by omega⟩, rfl, hg, hf⟩, Dv.Fr3.refl ..⟩
  | on =>
    obtain ⟨e1, e2⟩ : off = false ∧ armed = false := hpm
    subst e1 e2
    refine (Dv.sync_yes hd (by omega) (fun e => by cases e) hf).mono ?_
    rintro x w' ⟨rfl, las2, hd2, hl2, hfr⟩
    exact ⟨rfl, ⟨k, false, uses + 1, false, left, las2, hd2, ⟨by omega, by omega, by omega⟩, ⟨rfl, rfl⟩, fun j hj => (hl2 j hj).trans (hv j hj), none_ok⟩, hfr⟩
  | arm j =>
    obtain ⟨e1, e2, e3, hj⟩ : off = false ∧ armed = true ∧ left = (j : Int) ∧ j ≤ 1000 := hpm
    subst e1 e2 e3
    cases j with
    | zero =>
      refine (Dv.sync_last hd (by omega)).mono ?_
      rintro x w' ⟨rfl, hd2, hfr⟩
      exact ⟨rfl, ⟨k, true, uses + 1, true, -1, las, hd2, ⟨by omega, by omega, by omega⟩, rfl, hg, hf⟩, hfr⟩
    | succ j =>
      refine (Dv.sync_yes hd (by omega) (fun _ => by omega) hf).mono ?_
      rintro x w' ⟨rfl, las2, hd2, hl2, hfr⟩
      exact ⟨rfl, ⟨k, false, uses + 1, true, _, las2, hd2, ⟨by omega, by omega, by omega⟩, ⟨rfl, rfl, by unfold Dv.nl; simp, by omega⟩, fun j hj => (hl2 j hj).trans (hv j hj), none_ok⟩, hfr⟩
/-- What Read answers. -/
def rdV (s : Ds) (j : Nat) : Value := match s.pm with
  | .off => .tuple #[.string ⟨#[]⟩, .int .i64 6]
  | _ => .tuple #[.string (Dv.txt (vw s j)), .int .i64 0]
theorem read_s (h : DvS W D P L M n B s) (j : Nat) (hj : j < n) (hn : n ≤ 4096) :
    Calls Tryz.prog 66 #[.pointer (some ⟨D, 0, none⟩), .int .i64 (j : Int)] W fun x w' => x = .returned (rdV s j) ∧ Below W.heap.size W w' := by
  obtain ⟨pm, g, f⟩ := s
  obtain ⟨k, off, uses, armed, left, las, hd, ⟨hk, hu0, hu1⟩, hpm, hg, hf⟩ := h
  have hv : Dv.secAt las f j = vw ⟨pm, g, f⟩ j := secAt_vw (s := ⟨pm, g, f⟩) (hg j hj)
  cases pm with
  | off =>
    have e : off = true := hpm
    subst e
    refine (Dv.read_off hd (j : Int)).mono ?_
    rintro x w' ⟨rfl, rfl⟩
    exact ⟨rfl, Below.refl _ _⟩
  | on =>
    obtain ⟨e1, e2⟩ : off = false ∧ armed = false := hpm
    subst e1
    have := Dv.read_any hd j hj hn (fun l e => (hf _ l e).2.2)
    rw [hv] at this
    exact this
  | arm i =>
    obtain ⟨e1, e2, e3, _⟩ : off = false ∧ armed = true ∧ left = (i : Int) ∧ i ≤ 1000 := hpm
    subst e1
    have := Dv.read_any hd j hj hn (fun l e => (hf _ l e).2.2)
    rw [hv] at this
    exact this
theorem sectors_s (h : DvS W D P L M n B s) :
    Calls Tryz.prog 52 #[.pointer (some ⟨D, 0, none⟩)] W fun x w' => x = .returned (.int .i64 (n : Int)) ∧ W = w' := by
  obtain ⟨k, off, uses, armed, left, las, hd, r⟩ := h
  exact Dv.sectors_any hd
/-- What is left of a device behind a crash: each sector as it lasted, or as it was written last. -/
def Kept (g : Nat → List UInt8) (f : Int → Option (List UInt8)) (g2 : Nat → List UInt8) : Prop := ∀ j : Nat, g2 j = g j ∨ f (j : Int) = some (g2 j)
/-- A new device. -/
theorem new_s (n : Nat) (w : World) (h1 : 1 ≤ n) (h2 : n ≤ 4096) : Calls Tryz.prog 18 #[.pointer none, .int .i64 (n : Int)] w fun x w' =>
    ∃ D P L M, w.heap.size ≤ P ∧ w.heap.size ≤ L ∧ w.heap.size ≤ M ∧ w.heap.size ≤ D ∧ x = .returned (.pointer (some ⟨D, 0, none⟩)) ∧ DvS w' D P L M n 0 ⟨.on, fun _ => Dv.blank64, fun _ => none⟩ ∧ Below w.heap.size w w' := by
  refine (Dv.new_any n w h1 h2).mono ?_
  rintro x w' ⟨rfl, hd, hb⟩
  refine ⟨_, _, _, _, ?_, ?_, ?_, ?_, rfl, ⟨0, false, 0, false, 0, _, hd, ⟨by omega, by omega, by omega⟩, ⟨rfl, rfl⟩, fun j hj => ?_, none_ok⟩, hb⟩
  · omega
  · omega
  · omega
  · omega
  · simp [List.getD_eq_getElem?_getD, hj]
end
end Go.Proofs.YtkemhkmabbladaaGreatDoor
