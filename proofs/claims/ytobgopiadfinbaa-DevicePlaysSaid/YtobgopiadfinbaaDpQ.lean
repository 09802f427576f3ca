/-
  A DEVICE OF ANY POWER: what each call answers, and leaves.
-/
import Derived.Test.YtobgopiadfinbaaDvLastA
import Derived.Test.YtobgopiadfinbaaDvKeepA
import Derived.Test.YtobgopiadfinbaaDvPut
namespace Go.Proofs.Ytobgopiadfinbaa
open Go.RowKit
def LooseOk (n : Nat) (f : Int → Option (List UInt8)) : Prop := ∀ z l, f z = some l → 0 ≤ z ∧ z < (n : Int) ∧ l.length = 64
/-- A power's cells, as numbers. -/
structure Pn where
  off : Bool
  ar : Bool
  u : Int
  lf : Int
/-- A use of it. -/
def Pn.use (p : Pn) : Bool × Pn :=
  if p.off then (false, p) else if p.ar && decide (p.lf = 0) then (false, ⟨true, true, p.u + 1, -1⟩) else (true, ⟨false, p.ar, p.u + 1, nl p.ar p.lf⟩)
/-- A device in memory, behind at most c uses. -/
structure DQ (W : World) (D P L M n c : Nat) (p : Pn) (las : List (List UInt8)) (f : Int → Option (List UInt8)) : Prop where
  ex : ∃ k, k ≤ c ∧ DevAt W D P L M n k p.off p.u p.ar p.lf las f
  ok : LooseOk n f
  u : 0 ≤ p.u ∧ p.u ≤ (c : Int)
  lf : p.ar = true → p.off = false → 0 ≤ p.lf ∧ p.lf ≤ 9223372036854775807
  n1 : 1 ≤ n ∧ n ≤ 4096
section
variable {W X : World} {D P L M n c : Nat} {p : Pn} {las : List (List UInt8)} {f : Int → Option (List UInt8)}
theorem DQ.below (h : DQ W D P L M n c p las f) (hb : Below W.heap.size W X) : DQ X D P L M n c p las f := by
  obtain ⟨⟨k, hk, h1⟩, h2, h3, h4, h5⟩ := h
  exact ⟨⟨k, hk, h1.below hb⟩, h2, h3, h4, h5⟩
theorem DQ.more {c' : Nat} (h : DQ W D P L M n c p las f) (hc : c ≤ c') : DQ W D P L M n c' p las f := by
  obtain ⟨⟨k, hk, h1⟩, h2, h3, h4, h5⟩ := h
  exact ⟨⟨k, Nat.le_trans hk hc, h1⟩, h2, ⟨h3.1, by omega⟩, h4, h5⟩
theorem LooseOk.upd {f : Int → Option (List UInt8)} (h : LooseOk n f) {i : Int} (hi : 0 ≤ i ∧ i < (n : Int)) {l : List UInt8} (hl : l.length = 64) : LooseOk n (upd f i (some l)) := fun z m hm => by
  unfold Go.Proofs.Ytobgopiadfinbaa.upd at hm
  by_cases e : z = i
  · rw [if_pos e] at hm; cases hm; rw [e]; exact ⟨hi.1, hi.2, hl⟩
  · rw [if_neg e] at hm; exact h z m hm
theorem LooseOk.del {f : Int → Option (List UInt8)} (h : LooseOk n f) (i : Int) : LooseOk n (Go.Proofs.Ytobgopiadfinbaa.upd f i Option.none) := fun z m hm => by
  unfold Go.Proofs.Ytobgopiadfinbaa.upd at hm
  by_cases e : z = i
  · rw [if_pos e] at hm; cases hm
  · rw [if_neg e] at hm; exact h z m hm
theorem LooseOk.no : LooseOk n (fun _ => none) := fun _ _ h => by cases h
/-! ### Write -/
def wrOk (n : Nat) (i : Int) (l : List UInt8) : Bool := hasB n i && decide (l.length ≤ 64)
def wrE (n : Nat) (p : Pn) (i : Int) (l : List UInt8) : Int := if p.use.1 then (if wrOk n i l then 0 else 1) else 6
def wrF (n : Nat) (p : Pn) (f : Int → Option (List UInt8)) (i : Int) (l : List UInt8) : Int → Option (List UInt8) := if p.use.1 && wrOk n i l then upd f i (some (pad l)) else f
def WrQ (W : World) (D P L M n c : Nat) (p : Pn) (las : List (List UInt8)) (f : Int → Option (List UInt8)) (i : Int) (l : List UInt8) (x : Ending) (w' : World) : Prop :=
  x = .returned (.int .i64 (wrE n p i l)) ∧ DQ w' D P L M n (c + 1) p.use.2 las (wrF n p f i l) ∧ Fr3 P L M W w'
theorem use_num {p : Pn} (hu : 0 ≤ p.u ∧ p.u ≤ (c : Int)) : 0 ≤ p.use.2.u ∧ p.use.2.u ≤ ((c + 1 : Nat) : Int) := by
  unfold Pn.use
  split
  · show 0 ≤ p.u ∧ p.u ≤ ((c + 1 : Nat) : Int)
    omega
  · split
    · show 0 ≤ p.u + 1 ∧ p.u + 1 ≤ ((c + 1 : Nat) : Int)
      omega
    · show 0 ≤ p.u + 1 ∧ p.u + 1 ≤ ((c + 1 : Nat) : Int)
      omega
theorem use_lf {p : Pn} (h : p.ar = true → p.off = false → 0 ≤ p.lf ∧ p.lf ≤ 9223372036854775807) : p.use.2.ar = true → p.use.2.off = false → 0 ≤ p.use.2.lf ∧ p.use.2.lf ≤ 9223372036854775807 := by
  unfold Pn.use
  split
  · exact h
  · rename_i ho
    split
    · exact fun _ e => by cases e
    · rename_i ha
      intro h1 _
      simp only at h1 ⊢
      have hl := h h1 (by simpa using ho)
      rw [h1] at ha
      simp only [Bool.true_and, decide_eq_true_eq] at ha
      unfold nl
      rw [if_pos h1]
      omega
theorem use_cases (p : Pn) : (p.off = true ∧ p.use = (false, p)) ∨ (p.off = false ∧ p.ar = true ∧ p.lf = 0 ∧ p.use = (false, ⟨true, true, p.u + 1, -1⟩)) ∨ (p.off = false ∧ (p.ar = true → p.lf ≠ 0) ∧ p.use = (true, ⟨false, p.ar, p.u + 1, nl p.ar p.lf⟩)) := by
  unfold Pn.use
  by_cases ho : p.off = true
  · exact .inl ⟨ho, by rw [if_pos ho]⟩
  · rw [if_neg ho]
    by_cases ha : (p.ar && decide (p.lf = 0)) = true
    · simp only [Bool.and_eq_true, decide_eq_true_eq] at ha
      exact .inr (.inl ⟨by simpa using ho, ha.1, ha.2, by rw [if_pos (by simp [ha.1, ha.2])]⟩)
    · refine .inr (.inr ⟨by simpa using ho, fun h1 h2 => ha (by simp [h1, h2]), by rw [if_neg ha]⟩)
theorem write_q (h : DQ W D P L M n c p las f) (hc : c ≤ 1000) (i : Int) (sa : Option Addr) (ss : List ByteArray) (cc : Nat) (hs : ss.length ≤ 1000000) (hsa : ∀ u a l, StrsAt (useW P u a l W) sa ss) (hz : ∀ i, (ss.getD i ByteArray.empty).size ≤ 140737488355328) :
    Calls Try.prog 13 #[.pointer (some ⟨D, 0, none⟩), .int .i64 i, .slice sa ss.length cc] W (WrQ W D P L M n c p las f i (joined ss)) := by
  obtain ⟨⟨k, hk, h1⟩, h2, h3, h4, h5⟩ := h
  obtain ⟨off, ar, u, lf⟩ := p
  simp only at h1 h3 h4
  have hu : 0 ≤ u ∧ u ≤ 1000000000 := ⟨h3.1, by omega⟩
  rcases use_cases ⟨off, ar, u, lf⟩ with ⟨rfl, e⟩ | ⟨rfl, rfl, rfl, e⟩ | ⟨rfl, hne, e⟩
  · refine (write_off h1 i _).mono ?_
    rintro x w' ⟨rfl, rfl⟩
    unfold WrQ wrE wrF
    rw [e]
    exact ⟨rfl, ⟨⟨k, by omega, h1⟩, h2, ⟨h3.1, by simp only; omega⟩, fun _ e => by (cases e), h5⟩, Fr3.refl _ _ _ _⟩
  · refine (write_last h1 hu i _).mono ?_
    rintro x w' ⟨rfl, hd, hf⟩
    unfold WrQ wrE wrF
    rw [e]
    exact ⟨rfl, ⟨⟨k, by omega, hd⟩, h2, ⟨by simp only; omega, by simp only; omega⟩, fun _ e => by (cases e), h5⟩, hf⟩
  · have hlf : ar = true → 0 < lf ∧ lf ≤ 9223372036854775807 := fun ha => by
      have := h4 ha rfl
      have := hne ha
      simp only at this
      omega
    have hul := use_lf (p := ⟨false, ar, u, lf⟩) h4
    have hun := use_num (c := c) (p := ⟨false, ar, u, lf⟩) h3
    rw [e] at hul hun
    cases hw : wrOk n i (joined ss)
    · refine (write_non h1 hu hlf i sa ss cc hs (hsa _ _ _) hz (by
        unfold wrOk at hw
        rw [Bool.and_eq_false_iff] at hw
        rcases hw with q | q
        · exact .inr q
        · rw [decide_eq_false_iff_not] at q; exact .inl (by omega))).mono ?_
      rintro x w' ⟨rfl, hd, hf⟩
      unfold WrQ wrE wrF
      rw [e, hw]
      exact ⟨rfl, ⟨⟨k, by omega, hd⟩, h2, hun, hul, h5⟩, hf⟩
    · unfold wrOk hasB at hw
      simp only [Bool.and_eq_true, decide_eq_true_eq] at hw
      have hw2 : wrOk n i (joined ss) = true := by unfold wrOk hasB; simp only [Bool.and_eq_true, decide_eq_true_eq]; exact hw
      refine (write_yes h1 hu hlf (by omega) i hw.1 h5.2 sa ss cc hs (hsa _ _ _) hz hw.2).mono ?_
      rintro x w' ⟨rfl, hd, hf⟩
      unfold WrQ wrE wrF
      rw [e, hw2]
      exact ⟨rfl, ⟨⟨k + 1, by omega, hd⟩, h2.upd hw.1 (pad_len hw.2), hun, hul, h5⟩, hf⟩
/-! ### Sync -/
def SyQ (W : World) (D P L M n c : Nat) (p : Pn) (las : List (List UInt8)) (f : Int → Option (List UInt8)) (x : Ending) (w' : World) : Prop :=
  x = .returned (.int .i64 (if p.use.1 then 0 else 6)) ∧ (∃ las2, DQ w' D P L M n (c + 1) p.use.2 las2 (if p.use.1 then fun _ => none else f) ∧ ∀ j : Nat, j < n → las2.getD j blank64 = if p.use.1 then secAt las f j else las.getD j blank64) ∧ Fr3 P L M W w'
theorem sync_off {k : Nat} {u lf : Int} {ar : Bool} (h : DevAt W D P L M n k true u ar lf las f) :
    Calls Try.prog 21 #[.pointer (some ⟨D, 0, none⟩)] W fun e w' => e = .returned (.int .i64 6) ∧ W = w' := by
  have KU := Lib.hid (use_off h)
  have hd := h.d0
  clear h
  go_enter Try.func21, Try.ntmps21
  go_wp2_with fail
  refine KU.out.mono ?_
  rintro x w1 ⟨rfl, rfl⟩
  go_wp2
  go_ret
  exact ⟨rfl, rfl⟩
theorem sync_q (h : DQ W D P L M n c p las f) (hc : c ≤ 1000) :
    Calls Try.prog 21 #[.pointer (some ⟨D, 0, none⟩)] W (SyQ W D P L M n c p las f) := by
  obtain ⟨⟨k, hk, h1⟩, h2, h3, h4, h5⟩ := h
  obtain ⟨off, ar, u, lf⟩ := p
  simp only at h1 h3 h4
  have hu : 0 ≤ u ∧ u ≤ 1000000000 := ⟨h3.1, by omega⟩
  rcases use_cases ⟨off, ar, u, lf⟩ with ⟨rfl, e⟩ | ⟨rfl, rfl, rfl, e⟩ | ⟨rfl, hne, e⟩
  · refine (sync_off h1).mono ?_
    rintro x w' ⟨rfl, rfl⟩
    unfold SyQ
    rw [e]
    exact ⟨rfl, ⟨las, ⟨⟨k, by omega, h1⟩, h2, ⟨h3.1, by simp only; omega⟩, fun _ e => by (cases e), h5⟩, fun j _ => rfl⟩, Fr3.refl _ _ _ _⟩
  · refine (sync_last h1 hu).mono ?_
    rintro x w' ⟨rfl, hd, hf⟩
    unfold SyQ
    rw [e]
    exact ⟨rfl, ⟨las, ⟨⟨k, by omega, hd⟩, h2, ⟨by simp only; omega, by simp only; omega⟩, fun _ e => by (cases e), h5⟩, fun j _ => rfl⟩, hf⟩
  · have hlf : ar = true → 0 < lf ∧ lf ≤ 9223372036854775807 := fun ha => by
      have := h4 ha rfl
      have := hne ha
      simp only at this
      omega
    have hul := use_lf (p := ⟨false, ar, u, lf⟩) h4
    have hun := use_num (c := c) (p := ⟨false, ar, u, lf⟩) h3
    rw [e] at hul hun
    refine (sync_yes h1 hu hlf h2).mono ?_
    rintro x w' ⟨rfl, las2, hd, hl, hf⟩
    unfold SyQ
    rw [e]
    exact ⟨rfl, ⟨las2, ⟨⟨k, by omega, hd⟩, LooseOk.no, hun, hul, h5⟩, hl⟩, hf⟩
end
end Go.Proofs.Ytobgopiadfinbaa
