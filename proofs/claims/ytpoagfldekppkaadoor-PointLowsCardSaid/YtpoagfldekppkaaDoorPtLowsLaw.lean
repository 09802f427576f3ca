/-
  PointLows: the walk.
-/
import Derived.Test.YtpoagfldekppkaaDoorPtAwake
namespace Go.Proofs.YtpoagfldekppkaaDoor
open Go.RowKit
/-- Of the numbers ahead of one none that counts is below, and whether one is the low. -/
def AnyEq (l : List Int) (n : Int) (k : Nat) : Bool := (l.take k).any fun x => x == n
theorem anyEq_snoc (l : List Int) (n : Int) (k : Nat) (hk : k < l.length) : AnyEq l n (k + 1) = (AnyEq l n k || (l.getD k 0 == n)) := by
  unfold AnyEq
  rw [takeOne l k hk, List.any_append]; simp
theorem lows_all {h : Int} {l : List Int} {k : Nat} (hk : k < l.length) (h0 : 0 ≤ l.getD k 0) : ¬ l.getD k 0 < lowL h l := by
  have := lowF_all l (h + 1) (l.getD k 0) (by rw [List.getD_eq_getElem?_getD, List.getElem?_eq_getElem hk]; exact List.getElem_mem hk) h0
  unfold lowL
  omega
theorem lows_is {h : Int} {l : List Int} : ((lowL h l == h + 1) || AnyEq l (lowL h l) l.length) = true := by
  unfold AnyEq
  rw [List.take_length]
  rcases lowF_is l (h + 1) with e | e
  · rw [show lowL h l = h + 1 from e]; simp
  · have : (l.any fun x => x == lowL h l) = true := List.any_eq_true.2 ⟨_, e, by simp [lowL]⟩
    rw [this]; simp
set_option maxRecDepth 100000 in
set_option maxHeartbeats 4000000 in
theorem pointLows_walk (h : Int) (la : Option Addr) (l : List Int) (lc : Nat) (w : World) (hn : l.length ≤ maxLen) (hI : IntsAt w la l) (ht : Tab w) :
    Calls Tryd.prog 3 #[.int .i64 h, .slice la l.length lc] w fun x w' => x = .returned (.bool true) ∧ Below w.heap.size w w' := by
  have hnn := hn
  unfold maxLen at hn
  have KA := Lib.hid (fun W hT => awake19_any W hT)
  have HT := Lib.hid ht
  have HI := Lib.hid hI
  clear ht hI
  by_cases h1 : (l.length : Int) ≤ 30 ∧ 0 ≤ h ∧ h ≤ 1152921504606846976
  · obtain ⟨h1, h2, h3⟩ := h1
    have KL := Lib.hid (low_any h ⟨h2, h3⟩ la l lc w hnn HI.out)
    have HALL := Lib.hid (fun k (hk : k < l.length) => lows_all (h := h) hk)
    have HIS := Lib.hid (lows_is (h := h) (l := l))
    have hlo : lowL h l ≤ h + 1 := lowF_le l (h + 1)
    have hge : 0 ≤ lowL h l := lowF_ge l (h + 1) (by omega)
    clear hnn
    go_enter Tryd.func3, Tryd.ntmps3
    go_wp2_with fail
    refine KL.out.mono ?_
    rintro x w1 ⟨rfl, hb1⟩
    have I1 := Lib.hid (iBelow HI.out hb1)
    have B1 := Lib.hid hb1
    clear hb1 KL HI
    generalize lowL h l = n at *
    go_wp2
    go_loop [6, 7] (fun s i => ∃ k : Nat, k ≤ l.length ∧ i = .int .i64 k ∧ s = .bool ((n == h + 1) || AnyEq l n k)) (fun _ i => l.length - (intOf i).toNat)
    case atStart => exact ⟨0, Nat.zero_le _, rfl, by simp [AnyEq]⟩
    case round =>
      obtain ⟨k, hk, rfl, rfl⟩ := hrel
      by_cases hlt : k < l.length
      · obtain ⟨b, off, rfl, hc⟩ := iCell I1.out hlt
        have HS := Lib.hid (anyEq_snoc l n k hlt)
        have ha := HALL.out k hlt
        obtain ⟨c, hcc⟩ : ∃ c, c = l.getD k 0 := ⟨_, rfl⟩
        obtain ⟨q, hq⟩ : ∃ q, q = ((n == h + 1) || AnyEq l n k) := ⟨_, rfl⟩
        have HQ := Lib.hid hq
        rw [← hcc] at HS hc ha
        rw [← hq]
        clear hcc hq
        have HE : Hid (((n == h + 1) || AnyEq l n (k + 1)) = (q || (c == n))) := by rw [Hid, HS.out, HQ.out, Bool.or_assoc]
        clear HS HQ
        by_cases h0 : 0 ≤ c
        · have h4 := ha h0
          have h5 : ¬ c < n := by omega
          clear ha
          cases q with
          | true =>
            go_wp2
            go_round
            case rel => exact ⟨k + 1, by omega, by go_num, by rw [HE.out]; rfl⟩
            case measure => simp [intOf]; omega
          | false =>
            go_wp2
            go_round
            case rel => exact ⟨k + 1, by omega, by go_num, by rw [HE.out]; simp⟩
            case measure => simp [intOf]; omega
        · clear ha
          cases q with
          | true =>
            go_wp2
            go_round
            case rel => exact ⟨k + 1, by omega, by go_num, by rw [HE.out]; rfl⟩
            case measure => simp [intOf]; omega
          | false =>
            go_wp2
            go_round
            case rel => exact ⟨k + 1, by omega, by go_num, by rw [HE.out]; simp⟩
            case measure => simp [intOf]; omega
      · obtain rfl : k = l.length := by omega
        rw [HIS.out]
        have K2 := Lib.hid (KA.out _ (HT.out.below B1.out))
        go_wp2_with fail
        refine K2.out.mono ?_
        rintro x w2 ⟨rfl, hb2⟩
        have B2 := Lib.hid (B1.out.trans (hb2.mono B1.out.size))
        clear hb2
        go_wp2
        go_ret
        exact ⟨rfl, B2.out⟩
  · have K2 := Lib.hid (KA.out _ HT.out)
    have h4 : ¬ (l.length : Int) ≤ 30 ∨ ((l.length : Int) ≤ 30 ∧ (h < 0 ∨ (0 ≤ h ∧ ¬ h ≤ 1152921504606846976))) := by omega
    clear h1
    rcases h4 with h4 | ⟨h4, h5 | ⟨h5, h6⟩⟩
    all_goals
      go_enter Tryd.func3, Tryd.ntmps3
      go_wp2_with fail
      refine K2.out.mono ?_
      rintro x w2 ⟨rfl, hb2⟩
      have B2 := Lib.hid hb2
      clear hb2
      go_wp2
      go_ret
      exact ⟨rfl, B2.out⟩
end Go.Proofs.YtpoagfldekppkaaDoor
