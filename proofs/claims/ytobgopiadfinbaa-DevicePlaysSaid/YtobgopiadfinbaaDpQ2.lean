/-
  A DEVICE OF ANY POWER: Read, Arm, Crash, Put.
-/
import Derived.Test.YtobgopiadfinbaaDpQ
namespace Go.Proofs.Ytobgopiadfinbaa
open Go.RowKit
section
variable {W X : World} {D P L M n c : Nat} {p : Pn} {las : List (List UInt8)} {f : Int → Option (List UInt8)}
/-! ### Read -/
theorem read_out {k : Nat} {u lf : Int} {ar : Bool} (h : DevAt W D P L M n k false u ar lf las f) (i : Int) (hi : hasB n i = false) :
    Calls Try.prog 15 #[.pointer (some ⟨D, 0, none⟩), .int .i64 i] W fun e w' => e = .returned (.tuple #[.string ⟨#[]⟩, .int .i64 1]) ∧ W = w' := by
  have KO := Lib.hid (devOn h)
  have KH := has_any h i
  rw [hi] at KH
  have KH := Lib.hid KH
  clear h hi
  go_enter Try.func15, Try.ntmps15
  go_wp2_with fail
  refine KO.out.mono ?_
  rintro x w1 ⟨rfl, rfl⟩
  go_wp2_with fail
  refine KH.out.mono ?_
  rintro x w1 ⟨rfl, rfl⟩
  go_wp2
  refine bodyPost_ret (v := .tuple #[.string ⟨#[]⟩, .int .i64 1]) ?_ rfl ⟨rfl, rfl⟩
  simp [results, Try.results15, go_sem]
def rdS (n : Nat) (p : Pn) (las : List (List UInt8)) (f : Int → Option (List UInt8)) (i : Int) : ByteArray := if p.off then ⟨#[]⟩ else if hasB n i then txt (secAt las f i.toNat) else ⟨#[]⟩
def rdE (n : Nat) (p : Pn) (i : Int) : Int := if p.off then 6 else if hasB n i then 0 else 1
theorem read_q (h : DQ W D P L M n c p las f) (i : Int) :
    Calls Try.prog 15 #[.pointer (some ⟨D, 0, none⟩), .int .i64 i] W fun e w' => e = .returned (.tuple #[.string (rdS n p las f i), .int .i64 (rdE n p i)]) ∧ Below W.heap.size W w' := by
  obtain ⟨⟨k, hk, h1⟩, h2, h3, h4, h5⟩ := h
  obtain ⟨off, ar, u, lf⟩ := p
  simp only at h1
  unfold rdS rdE
  cases off
  · cases hh : hasB n i
    · refine (read_out h1 i hh).mono ?_
      rintro x w' ⟨rfl, rfl⟩
      exact ⟨rfl, Below.refl _ _⟩
    · have hh2 := hh
      unfold hasB at hh2
      simp only [Bool.and_eq_true, decide_eq_true_eq] at hh2
      obtain ⟨j, rfl⟩ : ∃ j : Nat, i = (j : Int) := ⟨i.toNat, by omega⟩
      refine (read_any h1 j (by omega) h5.2 (fun l hl => (h2 _ l hl).2.2)).mono ?_
      rintro x w' ⟨rfl, hb⟩
      exact ⟨rfl, hb⟩
  · refine (read_off h1 i).mono ?_
    rintro x w' ⟨rfl, rfl⟩
    exact ⟨rfl, Below.refl _ _⟩
/-! ### Arm -/
theorem arm_any {k : Nat} {u lf : Int} {off ar : Bool} (h : DevAt W D P L M n k off u ar lf las f) (j : Int) :
    Calls Try.prog 22 #[.pointer (some ⟨D, 0, none⟩), .int .i64 j] W fun e w' => e = .returned (.tuple #[]) ∧ DevAt w' D P L M n k off u true (max j 0) las f ∧ Fr3 P L M W w' := by
  have HA : Hid (DevAt ((W.setCell ⟨P, 2, none⟩ (.bool true)).setCell ⟨P, 3, none⟩ (.int .i64 (max j 0))) D P L M n k off u true (max j 0) las f) := (h.pow.2.2.1 true).pow.2.2.2 (max j 0)
  have KA : Hid (Calls Try.prog 34 #[.pointer (some ⟨P, 0, none⟩), .int .i64 j] W fun e w' => e = .returned (.tuple #[]) ∧ w' = (W.setCell ⟨P, 2, none⟩ (.bool true)).setCell ⟨P, 3, none⟩ (.int .i64 (max j 0))) := by
    have h2 := h.p2
    have h3 : ∀ v, (W.setCell ⟨P, 2, none⟩ v).cell? ⟨P, 3, none⟩ = some (.int .i64 lf) := fun v => by
      rw [World.cell?_setCell_other _ _ _ _ (fun e => by injection e with _ e2; cases e2)]; exact h.p3
    have hf := h.pf
    obtain ⟨mx, hmx⟩ : ∃ mx, mx = max j 0 := ⟨_, rfl⟩
    have e1 : (if (0 : Int) > j then (0 : Int) else j) = mx := by rw [hmx]; split <;> omega
    have e2 : (if j < 0 then (0 : Int) else j) = mx := by rw [hmx]; split <;> omega
    rw [← hmx]
    clear h hmx
    go_enter Try.func34, Try.ntmps34
    go_wp2
    exact bodyPost_end (v := .tuple #[]) (results_none rfl _ _ _) rfl ⟨rfl, rfl⟩
  have hd := h.d0
  clear h
  go_enter Try.func22, Try.ntmps22
  go_wp2_with fail
  refine KA.out.mono ?_
  rintro e w' ⟨rfl, rfl⟩
  have HB := HA.out
  have HF : Hid (Fr3 P L M W ((W.setCell ⟨P, 2, none⟩ (.bool true)).setCell ⟨P, 3, none⟩ (.int .i64 (max j 0)))) := Fr3.two
  generalize (W.setCell ⟨P, 2, none⟩ (.bool true)).setCell ⟨P, 3, none⟩ (.int .i64 (max j 0)) = X at *
  have HB := Lib.hid HB
  clear hd
  go_wp2
  exact bodyPost_end (v := .tuple #[]) (results_none rfl _ _ _) rfl ⟨rfl, HB.out, HF.out⟩
def Pn.arm (p : Pn) (j : Int) : Pn := ⟨p.off, true, p.u, max j 0⟩
theorem arm_q (h : DQ W D P L M n c p las f) (j : Int) (hj : (Lit.int .i64 j).wf = true) :
    Calls Try.prog 22 #[.pointer (some ⟨D, 0, none⟩), .int .i64 j] W fun e w' => e = .returned (.tuple #[]) ∧ DQ w' D P L M n c (p.arm j) las f ∧ Fr3 P L M W w' := by
  obtain ⟨⟨k, hk, h1⟩, h2, h3, h4, h5⟩ := h
  refine (arm_any h1 j).mono ?_
  rintro x w' ⟨rfl, hd, hf⟩
  refine ⟨rfl, ⟨⟨k, hk, hd⟩, h2, h3, fun _ _ => ?_, h5⟩, hf⟩
  simp [Lit.wf, IntKind.min, IntKind.max, IntKind.signed, IntKind.bits] at hj
  show 0 ≤ max j 0 ∧ max j 0 ≤ 9223372036854775807
  omega
/-! ### Crash -/
def Pn.crash (p : Pn) : Pn := ⟨false, false, p.u, p.lf⟩
theorem crash_q (h : DQ W D P L M n c p las f) (ka : Option Addr) (ks : List Int) (cc : Nat) (hl : ks.length ≤ 1000000) (hw : ∀ z ∈ ks, (Lit.int .i64 z).wf = true) (hka : IntsIn W ka L ks) :
    Calls Try.prog 14 #[.pointer (some ⟨D, 0, none⟩), .slice ka ks.length cc] W fun e w' => e = .returned (.tuple #[]) ∧ DQ w' D P L M n c p.crash (keepLas f las ks) (fun _ => none) ∧ Fr3 P L M W w' := by
  obtain ⟨⟨k, hk, h1⟩, h2, h3, h4, h5⟩ := h
  refine (crash_fr (B := 0) h1 h2 ⟨Nat.zero_le _, Nat.zero_le _, Nat.zero_le _⟩ (Nat.zero_le _) ka ks cc hl hw hka).mono ?_
  rintro x w' ⟨rfl, hd, _, hf⟩
  exact ⟨rfl, ⟨⟨k, hk, hd⟩, LooseOk.no, h3, fun e => by (cases e), h5⟩, hf⟩
/-! ### Put -/
def ptE (n : Nat) (i : Int) (l : List UInt8) : Int := if wrOk n i l then 0 else 1
def ptL (n : Nat) (las : List (List UInt8)) (i : Int) (l : List UInt8) : List (List UInt8) := if wrOk n i l then las.set i.toNat (pad l) else las
def ptF (n : Nat) (f : Int → Option (List UInt8)) (i : Int) (l : List UInt8) : Int → Option (List UInt8) := if wrOk n i l then upd f i none else f
theorem put_q (h : DQ W D P L M n c p las f) (i : Int) (s : ByteArray) (hs : s.size ≤ 1000) :
    Calls Try.prog 24 #[.pointer (some ⟨D, 0, none⟩), .int .i64 i, .string s] W fun e w' => e = .returned (.int .i64 (ptE n i s.data.toList)) ∧ DQ w' D P L M n c p (ptL n las i s.data.toList) (ptF n f i s.data.toList) ∧ Fr3 P L M W w' := by
  obtain ⟨⟨k, hk, h1⟩, h2, h3, h4, h5⟩ := h
  have hsz : s.data.toList.length = s.size := Array.length_toList
  unfold ptE ptL ptF
  cases hw : wrOk n i s.data.toList
  · refine (put_no h1 i s hs (by
      unfold wrOk at hw
      rw [Bool.and_eq_false_iff] at hw
      rcases hw with q | q
      · exact .inr q
      · rw [decide_eq_false_iff_not] at q; exact .inl (by omega))).mono ?_
    rintro x w' ⟨rfl, hd, hf⟩
    exact ⟨rfl, ⟨⟨k, hk, hd⟩, h2, h3, h4, h5⟩, hf⟩
  · unfold wrOk hasB at hw
    simp only [Bool.and_eq_true, decide_eq_true_eq] at hw
    obtain ⟨q, rfl⟩ : ∃ q : Nat, i = (q : Int) := ⟨i.toNat, by omega⟩
    refine (put_fr h1 q (by omega) h5.2 s (by omega)).mono ?_
    rintro x w' ⟨rfl, hd, hf⟩
    exact ⟨rfl, ⟨⟨k, hk, hd⟩, h2.del _, h3, h4, h5⟩, hf⟩
end
end Go.Proofs.Ytobgopiadfinbaa
