/-
  THE WALK OF quadrigalaw01.NumsLays: numbers are laid and taken as the document says; it returns true, and writes nothing that was there.
-/
import Derived.Test.YtcdnohgnmfaclaaNumsRefPut
import Derived.Test.YtcdnohgnmfaclaaNumsRefTake
namespace Go.Proofs.Ytcdnohgnmfaclaa
open Go.RowKit

theorem putL_all (k : Nat) (l : List Int) (h1 : 1 ≤ k) (h8 : k ≤ 8) (h : l.all (fitsN k) = true) : putL (k : Int) l = flatBe k l := by
  unfold putL fitsL flatBe
  rw [Int.toNat_natCast, h]
  simp; omega
theorem putL_bad (k : Nat) (l : List Int) (h : l.all (fitsN k) = false) : putL (k : Int) l = [] := by
  unfold putL fitsL
  rw [Int.toNat_natCast, h]
  simp
theorem putL_off (size : Int) (l : List Int) (h : ¬ (1 ≤ size ∧ size ≤ 8)) : putL size l = [] := by
  unfold putL fitsL
  by_cases h1 : 1 ≤ size
  · have : ¬ size ≤ 8 := fun h2 => h ⟨h1, h2⟩
    simp [this]
  · simp [h1]

set_option maxRecDepth 100000 in
set_option maxHeartbeats 4000000 in
theorem numsLays_walk (size : Int) (a : Option Addr) (l : List Int) (cap : Nat) (s : ByteArray) (other : Int) (w : World) (hsz : (Lit.int .i64 size).wf = true) (hw : Ints64 l) (hn : l.length ≤ maxLen) (ha : IntsAt w a l) (hs : s.size ≤ maxLen) (ho : (Lit.int .i64 other).wf = true) :
    Calls Try.prog 4 #[.int .i64 size, .slice a l.length cap, .string s, .int .i64 other] w fun e w' => e = .returned (.bool true) ∧ Below w.heap.size w w' := by
  unfold maxLen at hn hs
  have hs0 := bounds_i64 hsz
  have ho0 := bounds_i64 ho
  have HWk := Lib.hid fun W => awake_any W
  by_cases h50 : l.length ≤ 50
  · by_cases h100 : s.size ≤ 100
    · obtain ⟨v, r, c, ht1, ht2, hlr⟩ := takes_same s other
      have HT := Lib.hid fun W => take_any s other W ho0 (by omega)
      have HR := Lib.hid fun W => refTake_any s other W ho0 (by omega)
      rw [ht1] at HT
      rw [ht2] at HR
      have HP : Hid (∀ W, Below w.heap.size w W → Calls Try.prog 16 #[.int .i64 size, .slice a l.length cap] W fun e w' => e = .returned (.string ⟨(putL size l).toArray⟩) ∧ Below w.heap.size w w') := fun W hW =>
        (put_any size a l cap W hs0 hw (by omega) (ha.below hW)).mono fun e w' h => ⟨h.1, hW.trans (h.2.mono hW.size)⟩
      have HA := Lib.hid ha
      have HW := Lib.hid hw
      clear ht1 ht2 hsz ho ha hw
      by_cases hin : 1 ≤ size ∧ size ≤ 8
      · obtain ⟨h1, h8⟩ := hin
        obtain ⟨k, rfl⟩ := Int.eq_ofNat_of_zero_le (a := size) (by omega)
        have hk1 : 1 ≤ k := by omega
        have hk8 : k ≤ 8 := by omega
        have HRP : Hid (∀ n W, (Lit.int .i64 n).wf = true → Calls Try.prog 13 #[.int .i64 k, .int .i64 n] W fun e w' => e = .returned (.tuple #[.string ⟨(be k n.toNat).toArray⟩, .bool (fitsN k n)]) ∧ Below W.heap.size W w') := fun n W hn => refPut_any k n W hk1 hk8 hn
        go_enter Try.func4, Try.ntmps4
        go_wp2
        go_loopw [9, 10, 11, 12, 13] (fun x o i _ _ wr => ∃ (j : Nat) (b : ByteArray) (ok : Bool), j ≤ l.length ∧ i = .int .i64 j ∧ x = .string b ∧ o = .bool ok ∧ b.size ≤ 8 * j ∧
          Hid (ok = true → b = ⟨(flatBe k (l.take j)).toArray⟩ ∧ (l.take j).all (fitsN k) = true) ∧ Hid (ok = false → l.all (fitsN k) = false) ∧ Below w.heap.size w wr) (fun _ _ i _ _ _ => l.length - (intOf i).toNat)
        case atStart => exact ⟨0, ⟨#[]⟩, true, Nat.zero_le _, rfl, rfl, rfl, (by show 0 ≤ 8 * 0; omega), (fun _ => ⟨rfl, rfl⟩), (fun h => by cases h), Below.refl _ _⟩
        case round =>
          obtain ⟨j, b, ok, hj, rfl, rfl, rfl, hbs, hgood, hbad, hbr⟩ := hrel
          cases ok
          · have HB := Lib.hid (putL_bad k l (hbad.out rfl))
            rw [HB.out] at HP
            clear hgood hbad HB
            rcases Nat.lt_or_ge j l.length with hjl | hjl
            all_goals rcases hlr with ⟨rfl, d, rfl, hd, rfl⟩ | ⟨rfl, rfl⟩
            all_goals
              go_wp2_with fail
              refine (HT.out _).mono ?_
              rintro e w1 ⟨rfl, hb1⟩
              have hb2 := hbr.trans (hb1.mono hbr.size)
              go_wp2_with fail
              refine (HR.out _).mono ?_
              rintro e w2 ⟨rfl, rfl⟩
              go_wp2_with fail
              refine (HP.out _ hb2).mono ?_
              rintro e w3 ⟨rfl, hb3⟩
              go_wp2_with fail
              refine (HWk.out _).mono ?_
              rintro e w4 ⟨rfl, hb4⟩
              have hb5 := hb3.trans (hb4.mono hb3.size)
              go_wp2
              go_ret
              exact ⟨rfl, hb5⟩
          · obtain ⟨rfl, hall⟩ := hgood.out rfl
            clear hbad hgood
            by_cases hlt : j < l.length
            · obtain ⟨ab, off, rfl, hc0⟩ := HA.out.cell hlt
              have hc := (hbr.cell (p := ⟨ab, off + j, none⟩) (cell_lt hc0)).trans hc0
              have hclt := cell_lt hc0
              have hmem : l.getD j 0 ∈ l := by rw [List.getD_eq_getElem?_getD, List.getElem?_eq_getElem hlt]; exact List.getElem_mem _
              have HT1 := Lib.hid (take_one l j hlt)
              have HFT := Lib.hid (flatBe_take k l j hlt)
              have HRC := Lib.hid (fun W => HRP.out (l.getD j 0) W (HW.out _ hmem))
              have HALL := Lib.hid hall
              have HM := Lib.hid hmem
              obtain ⟨n, hcc⟩ : ∃ n, n = l.getD j 0 := ⟨_, rfl⟩
              rw [← hcc] at hc hc0 HT1 HFT HRC HM
              have HC0 := Lib.hid hc0
              clear hc0
              have hlb : (be k n.toNat).length ≤ 8 := by rw [be_len]; exact hk8
              obtain ⟨y, hy⟩ : ∃ y, y = be k n.toNat := ⟨_, rfl⟩
              rw [← hy] at HFT HRC hlb
              obtain ⟨F, hF⟩ : ∃ F, F = flatBe k (l.take j) := ⟨_, rfl⟩
              rw [← hF] at HFT hbs ⊢
              have hFl : F.length ≤ 8 * j := by
                have h2 : F.toArray.size ≤ 8 * j := hbs
                simpa using h2
              have hcs : (ByteArray.mk F.toArray ++ ByteArray.mk y.toArray).size ≤ 8 * (j + 1) := by
                rw [ByteArray.size_append]
                show F.toArray.size + y.toArray.size ≤ _
                simp; omega
              have hce : ByteArray.mk F.toArray ++ ByteArray.mk y.toArray = ⟨(F ++ y).toArray⟩ := by
                apply ByteArray.ext
                rw [ByteArray.data_append]; simp
              have HCS := Lib.hid hcs
              have HCE := Lib.hid hce
              clear hcs hce hcc hmem hall hy hF
              by_cases hfit : fitsN k n = true
              · have hn0 := (fitsN_parts hfit).1
                rw [hfit] at HRC
                have HFI := Lib.hid hfit
                clear hfit
                go_wp2_with fail
                refine (HRC.out _).mono ?_
                rintro e w1 ⟨rfl, hb1⟩
                have hb2 := hbr.trans (hb1.mono hbr.size)
                have hc1 := (hb2.cell (p := ⟨ab, off + j, none⟩) hclt).trans HC0.out
                go_wp2
                go_roundw
                case rel => exact ⟨j + 1, _, true, by omega, by go_num, rfl, rfl, HCS.out, fun _ => ⟨by rw [HCE.out, HFT.out], by rw [HT1.out, List.all_append, HALL.out]; simp [HFI.out]⟩, fun h => (by cases h), hb2⟩
                case measure => simp [intOf]; omega
              · have hff : fitsN k n = false := Bool.eq_false_iff.2 hfit
                rw [hff] at HRC
                have HFI := Lib.hid hff
                clear hfit hff
                go_wp2_with fail
                refine (HRC.out _).mono ?_
                rintro e w1 ⟨rfl, hb1⟩
                have hb2 := hbr.trans (hb1.mono hbr.size)
                go_wp2
                go_roundw
                case rel => exact ⟨j + 1, _, false, by omega, by go_num, rfl, rfl, HCS.out, fun h => (by cases h), fun _ => List.all_eq_false.2 ⟨n, HM.out, by rw [HFI.out]; simp⟩, hb2⟩
                case measure => simp [intOf]; omega
            · have hke : l.take j = l := List.take_of_length_le (by omega)
              rw [hke] at hall hbs ⊢
              have HB := Lib.hid (putL_all k l hk1 hk8 hall)
              rw [HB.out] at HP
              obtain ⟨F, hF⟩ : ∃ F, F = flatBe k l := ⟨_, rfl⟩
              rw [← hF] at HP hbs ⊢
              clear hall HB hke hF
              rcases hlr with ⟨rfl, d, rfl, hd, rfl⟩ | ⟨rfl, rfl⟩
              all_goals
                go_wp2_with fail
                refine (HT.out _).mono ?_
                rintro e w1 ⟨rfl, hb1⟩
                have hb2 := hbr.trans (hb1.mono hbr.size)
                go_wp2_with fail
                refine (HR.out _).mono ?_
                rintro e w2 ⟨rfl, rfl⟩
                go_wp2_with fail
                refine (HP.out _ hb2).mono ?_
                rintro e w3 ⟨rfl, hb3⟩
                go_wp2_with fail
                refine (HWk.out _).mono ?_
                rintro e w4 ⟨rfl, hb4⟩
                have hb5 := hb3.trans (hb4.mono hb3.size)
                go_wp2
                go_ret
                exact ⟨rfl, hb5⟩
      · have HB := Lib.hid (putL_off size l hin)
        rw [HB.out] at HP
        clear HB
        have hin2 : size < 1 ∨ (1 ≤ size ∧ 8 < size ∧ decide (size ≤ 8) = false) := by
          rcases Int.lt_or_le size 1 with h | h
          · exact .inl h
          · exact .inr ⟨h, by omega, decide_eq_false (by omega)⟩
        clear hin
        go_enter Try.func4, Try.ntmps4
        rcases Nat.lt_or_ge 0 l.length with hjl | hjl
        all_goals rcases hin2 with hin2 | ⟨hin2, hin3, hd8⟩
        all_goals rcases hlr with ⟨rfl, d, rfl, hd, rfl⟩ | ⟨rfl, rfl⟩
        all_goals
          go_wp2
          refine wp_loop_rounds 1 ?_
          rw [rounds_succ]
          go_wp2_with fail
          refine (HT.out _).mono ?_
          rintro e w1 ⟨rfl, hb1⟩
          go_wp2_with fail
          refine (HR.out _).mono ?_
          rintro e w2 ⟨rfl, rfl⟩
          go_wp2_with fail
          refine (HP.out _ hb1).mono ?_
          rintro e w3 ⟨rfl, hb3⟩
          go_wp2_with fail
          refine (HWk.out _).mono ?_
          rintro e w4 ⟨rfl, hb4⟩
          have hb5 := hb3.trans (hb4.mono hb3.size)
          go_wp2
          go_ret
          exact ⟨rfl, hb5⟩
    · have hbig : (100 : Int) < s.size := by omega
      clear ha
      go_enter Try.func4, Try.ntmps4
      go_wp2_with fail
      refine (HWk.out _).mono ?_
      rintro e w1 ⟨rfl, hb1⟩
      go_wp2
      go_ret
      exact ⟨rfl, hb1⟩
  · have hbig : (50 : Int) < (l.length : Int) := by omega
    clear ha
    go_enter Try.func4, Try.ntmps4
    go_wp2_with fail
    refine (HWk.out _).mono ?_
    rintro e w1 ⟨rfl, hb1⟩
    go_wp2
    go_ret
    exact ⟨rfl, hb1⟩
end Go.Proofs.Ytcdnohgnmfaclaa
