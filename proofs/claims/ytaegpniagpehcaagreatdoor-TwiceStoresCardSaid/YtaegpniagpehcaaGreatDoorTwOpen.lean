/-
  THE CONTRACTS OF twice's mend and Open: the page that is noted is written once more.
-/
import Derived.Test.YtaegpniagpehcaaGreatDoorTwOpenB
namespace Go.Proofs.YtaegpniagpehcaaGreatDoor
open Go.RowKit
section
variable {w W : World} {D P L M n B T pages : Nat} {s : Ds}
/-- mend, of any device that holds pages. -/
theorem mend_s (h : TwS w W D P L M n B T pages s) (hB : B + 7 ≤ 900000) (hn : n ≤ 4096) (hfit : 5 + 4 * pages ≤ n) :
    Calls Tryz.prog 35 #[.pointer (some ⟨T, 0, none⟩)] W (TwE w W D P L M n (B + 7) T pages (openM pages s)) := by
  by_cases ho : s.pm = .off
  · have e : openM pages s = (6, s) := by unfold openM; rw [ho]
    rw [e]
    refine (mend_off h ho hn (by omega)).mono ?_
    rintro x w' ⟨rfl, hb⟩
    exact ⟨rfl, (h.below hb).more (by omega), Dv.Fr3.of_below hb⟩
  · have hs := txt_len (h.d.vlen 0 (by omega))
    cases hz : allZ (Dv.txt (vw s 0)) with
    | true =>
      have e : openM pages s = (0, s) := by
        unfold openM
        cases hp : s.pm with
        | off => exact absurd hp ho
        | on => simp only [hz]; rfl
        | arm i => simp only [hz]; rfl
      rw [e]
      refine (mend_blank h ho hn (by omega) hz).mono ?_
      rintro x w' ⟨rfl, hb⟩
      exact ⟨rfl, (h.below hb).more (by omega), Dv.Fr3.of_below hb⟩
    | false =>
      obtain ⟨k, hk, ht⟩ := take1 hs
      have hr : ((Dv.txt (vw s 0)).extract 1 64).size ≤ 64 := by rw [ByteArray.size_extract]; omega
      by_cases hbad : k < 1 ∨ pages < k ∨ allZ ((Dv.txt (vw s 0)).extract 1 64) = false
      · have e : openM pages s = (9, s) := by
          unfold openM
          cases hp : s.pm with
          | off => exact absurd hp ho
          | on => simp only [hz, ht, if_pos hbad]; rfl
          | arm i => simp only [hz, ht, if_pos hbad]; rfl
        rw [e]
        refine (mend_bad h ho hn (by omega) hz k _ ht hr hk hbad).mono ?_
        rintro x w' ⟨rfl, hb⟩
        exact ⟨rfl, (h.below hb).more (by omega), Dv.Fr3.of_below hb⟩
      · have hzr : allZ ((Dv.txt (vw s 0)).extract 1 64) = true := by
          cases h3 : allZ ((Dv.txt (vw s 0)).extract 1 64) with
          | true => rfl
          | false => exact absurd (.inr (.inr h3)) hbad
        exact mend_note h ho hB hn hfit hz k _ ht hr hk (by omega) (by omega) hzr
/-- What Open answers, and leaves. -/
def OpP (w W : World) (D P L M n B pages : Nat) (o : Int × Ds) (x : Ending) (w' : World) : Prop := ∃ T, x = .returned (.tuple #[if o.1 = 0 then .pointer (some ⟨T, 0, none⟩) else .pointer none, .int .i64 o.1]) ∧ TwS w w' D P L M n B T pages o.2 ∧ Dv.Fr3 P L M W w' ∧ W.heap.size ≤ T
theorem open_bad (h : DvS W D P L M n B s) (p : Int) (hb : fitsB n p = false) : Calls Tryz.prog 15 #[.pointer (some ⟨D, 0, none⟩), .int .i64 p] W fun x w' => x = .returned (.tuple #[.pointer none, .int .i64 1]) ∧ W = w' := by
  have KF := Lib.hid (fits_dev h p)
  rw [hb] at KF
  clear h hb
  go_enter Tryz.func15, Tryz.ntmps15
  go_wp2_with fail
  refine KF.out.mono ?_
  rintro x w1 ⟨rfl, rfl⟩
  go_wp2
  go_ret2
  exact ⟨rfl, rfl⟩
theorem open_nil (p : Int) (W : World) : Calls Tryz.prog 15 #[.pointer none, .int .i64 p] W fun x w' => x = .returned (.tuple #[.pointer none, .int .i64 1]) ∧ W = w' := by
  have KF := Lib.hid (fun W => fits_nil p W)
  go_enter Tryz.func15, Tryz.ntmps15
  go_wp2_with fail
  refine (KF.out _).mono ?_
  rintro x w1 ⟨rfl, rfl⟩
  go_wp2
  go_ret2
  exact ⟨rfl, rfl⟩
theorem open_s (h : DvB w W D P L M n B s) (hB : B + 7 ≤ 900000) (hn : n ≤ 4096) (p : Nat) (h1 : 1 ≤ p) (h2 : p ≤ 64) (h3 : 5 + 4 * p ≤ n) :
    Calls Tryz.prog 15 #[.pointer (some ⟨D, 0, none⟩), .int .i64 (p : Int)] W (OpP w W D P L M n (B + 7) p (openM p s)) := by
  have KF := Lib.hid (fits_dev h.d (p : Int))
  rw [fits_yes h1 h2 h3] at KF
  have S1 := Lib.hid (h.tw p 62)
  have F1 := Lib.hid (Dv.Fr3.of_below (P := P) (L := L) (M := M) ((Below.refl W.heap.size W).alloc (Nat.le_refl _) (.cells #[.pointer (some ⟨D, 0, none⟩), .int .i64 (p : Int)] 62)))
  have KM := Lib.hid (mend_s S1.out hB hn h3)
  clear h S1
  obtain ⟨O, hO⟩ : ∃ O, openM p s = O := ⟨_, rfl⟩
  rw [hO] at KM ⊢
  obtain ⟨e, s2⟩ := O
  by_cases he : e = 0
  · subst he
    have KM2 := Lib.hid (KM.out.mono fun x w' (hh : TwE _ _ _ _ _ _ _ _ _ _ _ x w') => (hh : x = .returned (.int .i64 0) ∧ TwS w w' D P L M n (B + 7) W.heap.size p s2 ∧ Dv.Fr3 P L M _ w'))
    clear KM hO
    go_enter Tryz.func15, Tryz.ntmps15
    go_wp2_with fail
    refine KF.out.mono ?_
    rintro x w1 ⟨rfl, rfl⟩
    go_wp2_with fail
    refine KM2.out.mono ?_
    rintro x w2 ⟨rfl, hs2, hf2⟩
    have S2 := Lib.hid hs2
    have F2 := Lib.hid (F1.out.trans hf2)
    clear hs2 hf2 KM2 KF F1
    go_wp2
    go_ret2
    exact ⟨_, rfl, S2.out, F2.out, Nat.le_refl _⟩
  · have KM2 := Lib.hid (KM.out.mono fun x w' (hh : TwE _ _ _ _ _ _ _ _ _ _ _ x w') => (hh : x = .returned (.int .i64 e) ∧ TwS w w' D P L M n (B + 7) W.heap.size p s2 ∧ Dv.Fr3 P L M _ w'))
    have hv : Hid ((if ((e, s2) : Int × Ds).1 = 0 then Value.pointer (some ⟨W.heap.size, 0, none⟩) else Value.pointer none) = Value.pointer none) := if_neg he
    clear KM hO
    go_enter Tryz.func15, Tryz.ntmps15
    go_wp2_with fail
    refine KF.out.mono ?_
    rintro x w1 ⟨rfl, rfl⟩
    go_wp2_with fail
    refine KM2.out.mono ?_
    rintro x w2 ⟨rfl, hs2, hf2⟩
    have S2 := Lib.hid hs2
    have F2 := Lib.hid (F1.out.trans hf2)
    clear hs2 hf2 KM2 KF F1
    go_wp2
    go_ret2
    exact ⟨_, by rw [hv.out]; rfl, S2.out, F2.out, Nat.le_refl _⟩
end
end Go.Proofs.YtaegpniagpehcaaGreatDoor
