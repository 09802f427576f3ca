/-
  THE CONTRACTS OF sum.Good, quadrigalaw02.join AND quadrigalaw02.awake.
-/
import Derived.Test.YtcdnohgnmfaclaaDoorSumSeal
namespace Go.Proofs.YtcdnohgnmfaclaaDoor
open Go.RowKit Crc

def goodAll (ss : List ByteArray) : Bool := ss.all fun s => (openRes s).2

theorem goodAll_take (ss : List ByteArray) (k : Nat) (h : k < ss.length) : goodAll (ss.take (k + 1)) = (goodAll (ss.take k) && (openRes (ss.getD k ByteArray.empty)).2) := by
  unfold goodAll
  rw [List.take_succ_eq_append_getElem h, List.all_append]
  simp [List.getD_eq_getElem?_getD, h]
theorem goodAll_bad (ss : List ByteArray) (k : Nat) (h : k < ss.length) (hb : (openRes (ss.getD k ByteArray.empty)).2 = false) : goodAll ss = false := by
  unfold goodAll
  rw [List.all_eq_false]
  exact ⟨ss.getD k ByteArray.empty, by simp [List.getD_eq_getElem?_getD, h], by simp only [hb]; simp⟩
theorem ret_bool {a b : Bool} (h : a = b) : Ending.returned (.bool a) = .returned (.bool b) := by rw [h]

set_option maxHeartbeats 400000 in
theorem good_any (a : Option Addr) (ss : List ByteArray) (cap : Nat) (w : World) (hs : Short ss) (hn : ss.length ≤ maxLen) (ha : StrsAt w a ss) (ht : Tab w) :
    Calls Tryd.prog 16 #[.slice a ss.length cap] w fun e w' => e = .returned (.bool (goodAll ss)) ∧ Below w.heap.size w w' := by
  unfold maxLen at hn
  have HT := Lib.hid ht; clear ht
  have HA := Lib.hid ha; clear ha
  have HSh := Lib.hid hs; clear hs
  go_enter Tryd.func16, Tryd.ntmps16
  go_wp2
  go_loopw [9] (fun i wr => ∃ k : Nat, k ≤ ss.length ∧ i = .int .i64 k ∧ Hid (goodAll (ss.take k) = true) ∧ Below w.heap.size w wr) (fun i _ => ss.length - (intOf i).toNat)
  case atStart => exact ⟨0, Nat.zero_le _, rfl, rfl, Below.refl _ _⟩
  case round =>
    obtain ⟨k, hk, rfl, hg, hbr⟩ := hrel
    by_cases hlt : k < ss.length
    · obtain ⟨b, off, rfl, hc⟩ : ∃ b off, a = some ⟨b, off, none⟩ ∧ ∀ i, i < ss.length → w.cell? ⟨b, off + i, none⟩ = some (.string (ss.getD i ByteArray.empty)) := by
        rcases HA.out with h | h
        · rw [h] at hlt; simp at hlt
        · exact h
      have hmem : ss.getD k ByteArray.empty ∈ ss := by simp [List.getD_eq_getElem?_getD, hlt]
      have hck := (hbr.cell (p := ⟨b, off + k, none⟩) (cell_lt (hc k hlt))).trans (hc k hlt)
      clear hc
      have G1 := Lib.hid (goodAll_take ss k hlt)
      have G2 := Lib.hid (goodAll_bad ss k hlt)
      obtain ⟨s, hs⟩ : ∃ s, s = ss.getD k ByteArray.empty := ⟨_, rfl⟩
      rw [← hs] at G1 G2 hmem hck
      have hsz := HSh.out s hmem
      clear hs
      have HO := Lib.hid (open_any s _ hsz (HT.out.below hbr))
      cases hr : (openRes s).2
      all_goals
        rw [hr] at HO G1 G2
        clear hr
        go_wp2_with (go_at_call 14; refine HO.out.mono ?_; rintro e w1 ⟨rfl, hb1⟩)
      · go_ret
        exact ⟨ret_bool (by first | exact (G2.out trivial).symm | exact (G2.out rfl).symm), hbr.trans (hb1.mono hbr.size)⟩
      · go_roundw
        case rel => exact ⟨k + 1, by omega, by go_num, by rw [Hid, G1.out, hg.out]; rfl, hbr.trans (hb1.mono hbr.size)⟩
        case measure => simp [intOf]; omega
    · go_wp2
      go_ret
      exact ⟨ret_bool (by rw [← hg.out, List.take_of_length_le (by omega)]), hbr⟩

theorem bytes_append (J : List UInt8) (s : ByteArray) : (⟨J.toArray⟩ : ByteArray) ++ s = ⟨(J ++ s.data.toList).toArray⟩ := by
  apply ByteArray.ext
  rw [ByteArray.data_append]
  simp

theorem join_len (J : List UInt8) (s : ByteArray) (k : Nat) (h : J.length ≤ 1000 * k) (hs : s.size ≤ 1000) : (J ++ s.data.toList).length ≤ 1000 * (k + 1) := by
  have : s.data.toList.length = s.size := Array.length_toList
  rw [List.length_append]; omega

/-- What quadrigalaw02.join answers: where it says yes, the texts one behind the other, few and short. -/
def JoinPost (ss : List ByteArray) (w : World) (e : Ending) (w' : World) : Prop :=
  ∃ (t : ByteArray) (ok : Bool), e = .returned (.tuple #[.string t, .bool ok]) ∧ (ok = true → t = ⟨(joined ss).toArray⟩ ∧ ss.length ≤ 20 ∧ (joined ss).length ≤ 2000) ∧ w = w'

theorem joinPost_no {ss : List ByteArray} {w w' : World} {e : Ending} {t : ByteArray} (h : e = .returned (.tuple #[.string t, .bool false])) (hw : w = w') : JoinPost ss w e w' := ⟨t, false, h, (fun h => by cases h), hw⟩
theorem joinPost_yes {ss : List ByteArray} {w w' : World} {e : Ending} {t : ByteArray} {b : Bool} (h : e = .returned (.tuple #[.string t, .bool b])) (ht : t = ⟨(joined ss).toArray⟩) (hl : b = true → ss.length ≤ 20 ∧ (joined ss).length ≤ 2000) (hw : w = w') : JoinPost ss w e w' := ⟨t, b, h, fun h => ⟨ht, hl h⟩, hw⟩

set_option maxHeartbeats 400000 in
theorem lawjoin_any (a : Option Addr) (ss : List ByteArray) (cap : Nat) (w : World) (hn : ss.length ≤ maxLen) (ha : StrsAt w a ss) :
    Calls Tryd.prog 7 #[.slice a ss.length cap] w (JoinPost ss w) := by
  unfold maxLen at hn
  have HA := Lib.hid ha; clear ha
  go_enter Tryd.func7, Tryd.ntmps7
  go_wp2
  go_loop [4, 5] (fun t i => ∃ k : Nat, k ≤ ss.length ∧ k ≤ 20 ∧ i = .int .i64 k ∧ t = .string ⟨(joined (ss.take k)).toArray⟩ ∧ (joined (ss.take k)).length ≤ 1000 * k) (fun _ i => ss.length - (intOf i).toNat)
  case atStart => exact ⟨0, Nat.zero_le _, Nat.zero_le _, rfl, rfl, by simp [joined]⟩
  case round =>
    obtain ⟨k, hk, hk2, rfl, rfl, hlen⟩ := hrel
    obtain ⟨J, hJ⟩ : ∃ J, J = joined (ss.take k) := ⟨_, rfl⟩
    rw [← hJ] at hlen ⊢
    have HJ := Lib.hid hJ; clear hJ
    by_cases hlt : k < ss.length
    · obtain ⟨b, off, rfl, hc⟩ : ∃ b off, a = some ⟨b, off, none⟩ ∧ ∀ i, i < ss.length → w.cell? ⟨b, off + i, none⟩ = some (.string (ss.getD i ByteArray.empty)) := by
        rcases HA.out with h | h
        · rw [h] at hlt; simp at hlt
        · exact h
      have hck := hc k hlt
      clear hc
      have G1 := Lib.hid (joined_take ss k hlt)
      obtain ⟨s, hs⟩ : ∃ s, s = ss.getD k ByteArray.empty := ⟨_, rfl⟩
      rw [← hs] at G1 hck
      clear hs
      by_cases h20 : k < 20
      · by_cases hbig : s.size ≤ 1000
        · have hbig' : (s.size : Int) ≤ 1000 := by omega
          have hJs : (⟨J.toArray⟩ : ByteArray).size ≤ 20000 := by simp [ByteArray.size]; omega
          go_wp2
          go_round
          case rel => exact ⟨k + 1, by omega, by omega, by go_num, by rw [G1.out, ← HJ.out]; exact congrArg Value.string (bytes_append J s), by rw [G1.out, ← HJ.out]; exact join_len J s k hlen hbig⟩
          case measure => simp [intOf]; omega
        · have hbig' : (1000 : Int) < (s.size : Int) := by omega
          go_wp2
          go_ret2
          exact joinPost_no rfl rfl
      · go_wp2
        go_ret2
        exact joinPost_no rfl rfl
    · go_wp2
      go_ret2
      exact joinPost_yes rfl (by rw [HJ.out, List.take_of_length_le (by omega)]) (fun h => ⟨by omega, by
        have h1 : (J.length : Int) ≤ 2000 := of_decide_eq_true h
        rw [HJ.out, List.take_of_length_le (by omega)] at h1
        omega⟩) rfl

/-! ### the document's example -/
theorem openRes_seal (l : List UInt8) : openRes (sealStr l) = (⟨l.toArray⟩, true) := by
  have h4 := laid_size l
  have h4d : (laidStr l).data.size = 4 := h4
  have hd : (sealStr l).data = l.toArray ++ (laidStr l).data := by unfold sealStr; rw [ByteArray.data_append]
  have hsz : (sealStr l).size = l.length + 4 := by
    show (sealStr l).data.size = _
    rw [hd, Array.size_append, h4d]; simp
  have h1 : (sealStr l).size - 4 = l.length := by omega
  have htake : (sealStr l).data.toList.take ((sealStr l).size - 4) = l := by
    rw [h1, hd, Array.toList_append]; simp
  have hx1 : (sealStr l).extract 0 ((sealStr l).size - 4) = ⟨l.toArray⟩ := by
    apply ByteArray.ext
    rw [h1, ByteArray.data_extract, hd]
    apply Array.toList_inj.1
    simp
  have hx2 : (sealStr l).extract ((sealStr l).size - 4) (sealStr l).size = laidStr l := by
    apply ByteArray.ext
    rw [ByteArray.data_extract, h1, hsz, hd]
    apply Array.toList_inj.1
    have : ((laidStr l).data.toList).length = 4 := by rw [Array.length_toList, h4d]
    simp [this]
    rw [List.take_of_length_le (by omega)]
  have hs : isSealed (sealStr l) = true := by
    unfold isSealed
    rw [htake, hx2]
    simp [hsz]
  unfold openRes
  rw [if_pos hs, hx1]

theorem crc_example : (crc [49, 50, 51, 52, 53, 54, 55, 56, 57]).toNat = 3421780262 := by decide +kernel

theorem two_str (w : World) (p q : ByteArray) (T : TypeId) : StrsAt (w.alloc (.cells #[.string p, .string q] T)) (some ⟨w.heap.size, 0, none⟩) [p, q] :=
  .inr ⟨w.heap.size, 0, rfl, fun i hi => by
    match i, hi with
    | 0, _ => simp [World.cell?_alloc_at]
    | 1, _ => simp [World.cell?_alloc_at]⟩

theorem short_two (p q : ByteArray) (hp : p.size ≤ maxLen) (hq : q.size ≤ maxLen) : Short [p, q] := fun x hx => by
  simp only [List.mem_cons, List.not_mem_nil, or_false] at hx
  rcases hx with rfl | rfl <;> assumption

set_option maxHeartbeats 400000 in
theorem awake_any (w : World) (ht : Tab w) : Calls Tryd.prog 8 #[] w fun e w' => e = .returned (.bool true) ∧ Below w.heap.size w w' := by
  have HT := Lib.hid ht; clear ht
  have HS : Hid (∀ W, Below w.heap.size w W → Calls Tryd.prog 13 #[.slice (some ⟨W.heap.size, 0, none⟩) 2 2] (W.alloc (.cells #[.string ⟨#[97]⟩, .string ⟨#[98]⟩] 9)) fun e w' => e = .returned (.string (sealStr [97, 98])) ∧ Below w.heap.size w w') := fun W hW => by
    have hb : Below w.heap.size w (W.alloc (.cells #[.string ⟨#[97]⟩, .string ⟨#[98]⟩] 9)) := hW.alloc hW.size _
    refine (seal_any (some ⟨W.heap.size, 0, none⟩) [⟨#[97]⟩, ⟨#[98]⟩] 2 _ (short_two _ _ (by decide) (by decide)) (two_str W _ _ _) (by decide) (by decide) (by decide) (HT.out.below hb)).mono fun e w' h => ⟨h.1, hb.trans (h.2.mono hb.size)⟩
  have HO : Hid (∀ W, Below w.heap.size w W → Calls Tryd.prog 14 #[.string (sealStr [97, 98])] W fun e w' => e = .returned (.tuple #[.string ⟨#[97, 98]⟩, .bool true]) ∧ Below w.heap.size w w') := fun W hW => by
    refine (open_any (sealStr [97, 98]) W (by decide +kernel) (HT.out.below hW)).mono fun e w' h => ⟨?_, hW.trans (h.2.mono hW.size)⟩
    rw [h.1, openRes_seal]
  have HF : Hid (∀ W, Below w.heap.size w W → Calls Tryd.prog 9 #[.slice (some ⟨W.heap.size, 0, none⟩) 2 2] (W.alloc (.cells #[.string ⟨#[49, 50, 51, 52]⟩, .string ⟨#[53, 54, 55, 56, 57]⟩] 9)) fun e w' => e = .returned (.int .u32 3421780262) ∧ Below w.heap.size w w') := fun W hW => by
    have hb : Below w.heap.size w (W.alloc (.cells #[.string ⟨#[49, 50, 51, 52]⟩, .string ⟨#[53, 54, 55, 56, 57]⟩] 9)) := hW.alloc hW.size _
    refine (of_any (some ⟨W.heap.size, 0, none⟩) [⟨#[49, 50, 51, 52]⟩, ⟨#[53, 54, 55, 56, 57]⟩] 2 _ (short_two _ _ (by decide) (by decide)) (by decide) (two_str W _ _ _) (HT.out.below hb)).mono ?_
    rintro e w' ⟨rfl, rfl⟩
    refine ⟨?_, hb⟩
    have := crc_example
    show Ending.returned (.int .u32 ((crc [49, 50, 51, 52, 53, 54, 55, 56, 57]).toNat : Int)) = _
    rw [this]; rfl
  go_enter Tryd.func8, Tryd.ntmps8
  go_wp2_with fail
  refine (HS.out _ (Below.refl _ _)).mono ?_
  rintro e w1 ⟨rfl, hb1⟩
  go_wp2_with fail
  refine (HO.out _ hb1).mono ?_
  rintro e w2 ⟨rfl, hb2⟩
  go_wp2_with fail
  refine (HF.out _ hb2).mono ?_
  rintro e w3 ⟨rfl, hb3⟩
  go_wp2
  go_ret
  exact ⟨rfl, hb3⟩
end Go.Proofs.YtcdnohgnmfaclaaDoor
