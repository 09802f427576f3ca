/-
  THE CONTRACTS OF nums.Sum (of two), area.sizeOf, strings.Join with nothing between.
-/
import Derived.Test.YtckhdknehdjhoaaDoorArBase
import Derived.Test.YtckhdknehdjhoaaDoorJoin
namespace Go.Proofs.YtckhdknehdjhoaaDoor
open Go.RowKit
section
variable {W : World}
set_option maxHeartbeats 1000000 in
theorem sum2_any (a b g : Nat) (hab : a + b ≤ 9223372036854775807) (h0 : W.cell? ⟨g, 0, none⟩ = some (.int .i64 (a : Int))) (h1 : W.cell? ⟨g, 1, none⟩ = some (.int .i64 (b : Int))) :
    Calls Tryd.prog 33 #[.slice (some ⟨g, 0, none⟩) 2 2] W fun e w' => e = .returned (.int .i64 ((a + b : Nat) : Int)) ∧ w' = W := by
  go_enter Tryd.func33, Tryd.ntmps33
  go_wp2
  go_loop [3, 8] (fun v i => (i = .int .i64 0 ∧ v = .int .i64 0) ∨ (i = .int .i64 1 ∧ v = .int .i64 (a : Int)) ∨ (i = .int .i64 2 ∧ v = .int .i64 ((a : Int) + (b : Int)))) (fun _ i => 2 - (intOf i).toNat)
  case atStart => exact .inl ⟨rfl, rfl⟩
  case round =>
    rcases hrel with ⟨rfl, rfl⟩ | ⟨rfl, rfl⟩ | ⟨rfl, rfl⟩
    · by_cases ha : a = 0
      · subst ha
        go_wp2
        go_round
        case rel => exact .inr (.inl ⟨by go_num, rfl⟩)
        case measure => simp [intOf]
      · have ha1 : (0 : Int) < (a : Int) := by omega
        have ha2 : (a : Int) ≤ 9223372036854775807 := by omega
        go_wp2
        go_round
        case rel => exact .inr (.inl ⟨by go_num, by go_num⟩)
        case measure => simp [intOf]
    · by_cases hb : b = 0
      · subst hb
        go_wp2
        go_round
        case rel => exact .inr (.inr ⟨by go_num, by go_num⟩)
        case measure => simp [intOf]
      · have hb1 : (0 : Int) < (b : Int) := by omega
        have hb2 : (b : Int) ≤ 9223372036854775807 - (a : Int) := by omega
        go_wp2
        go_round
        case rel => exact .inr (.inr ⟨by go_num, by go_num⟩)
        case measure => simp [intOf]
    · go_wp2
      go_ret
      exact ⟨ret_int (by omega), rfl⟩
set_option maxHeartbeats 1000000 in
theorem sizeOf_any (a : Option Addr) (ss : List ByteArray) (c : Nat) (w : World) (hn : ss.length ≤ 1000) (ha : StrsAt w a ss) (hz : ∀ s ∈ ss, s.size ≤ 140737488351232) :
    Calls Tryd.prog 18 #[.slice a ss.length c] w fun e w' => e = .returned (.int .i64 ((joined ss).length : Int)) ∧ Below w.heap.size w w' := by
  have HA := Lib.hid ha; clear ha
  have HZ := Lib.hid hz; clear hz
  go_enter Tryd.func18, Tryd.ntmps18
  go_wp2
  go_loopw [3, 8] (fun v i wr => ∃ k : Nat, k ≤ ss.length ∧ i = .int .i64 k ∧ (∃ t : Nat, v = .int .i64 (t : Int) ∧ Hid (t = (joined (ss.take k)).length)) ∧ Hid (Below w.heap.size w wr)) (fun _ i _ => ss.length - (intOf i).toNat)
  case atStart => exact ⟨0, Nat.zero_le _, rfl, ⟨0, rfl, rfl⟩, Below.refl _ _⟩
  case round =>
    obtain ⟨k, hk, rfl, ⟨t, rfl, ht⟩, hb⟩ := hrel
    rename World => wa
    by_cases hlt : k < ss.length
    · obtain ⟨b, off, rfl, hc⟩ := (StrsAt.below HA.out hb.out).cell hlt
      have hs : (ss.getD k ByteArray.empty).size ≤ 140737488351232 := HZ.out _ (by rw [List.getD_eq_getElem?_getD, List.getElem?_eq_getElem hlt]; exact List.getElem_mem _)
      have ht1 : t ≤ 1000 * 140737488351232 := by
        rw [ht.out]
        exact Nat.le_trans (joined_small (fun s hs => HZ.out s (List.mem_of_mem_take hs))) (by rw [List.length_take]; exact Nat.mul_le_mul_right _ (by omega))
      have HN : Hid (t + (ss.getD k ByteArray.empty).size = (joined (ss.take (k + 1))).length) := by rw [Hid, ht.out, joined_take ss k hlt, List.length_append, ba_len]
      generalize ss.getD k ByteArray.empty = s at hc hs HN
      clear ht
      obtain ⟨z, hz⟩ : ∃ z, z = s.size := ⟨_, rfl⟩
      have KS := Lib.hid (sum2_any (W := wa.alloc (.cells #[.int .i64 (t : Int), .int .i64 (z : Int)] 3)) t z wa.heap.size (by omega) (new_cell rfl rfl) (new_cell rfl rfl))
      rw [← hz] at HN
      have hz2 : (s.size : Int) = (z : Int) := by omega
      clear hz
      have HB := Lib.hid (hb.out.alloc hb.out.size (.cells #[.int .i64 (t : Int), .int .i64 (z : Int)] 3))
      go_wp2_with fail
      refine KS.out.mono ?_
      rintro e w2 ⟨rfl, rfl⟩
      go_wp2
      go_roundw
      case rel => exact ⟨k + 1, by omega, by go_num, ⟨_, rfl, HN⟩, HB⟩
      case measure => simp [intOf]; omega
    · have hke : k = ss.length := by omega
      subst hke
      have HE : Hid (t = (joined ss).length) := by rw [Hid, ht.out, List.take_length]
      clear ht
      go_wp2
      go_ret
      exact ⟨ret_int (by rw [HE.out]), hb.out⟩
theorem join_joined (ss : List ByteArray) : Lib.join (ss.map (·.data.toList)) [] = joined ss := by
  cases ss with
  | nil => rfl
  | cons x r =>
    rw [List.map_cons, Lib.join_cons]
    simp [Lib.joinTail, joined, List.flatMap]
    rfl
theorem joinS_any (a : Option Addr) (ss : List ByteArray) (cap : Nat) (w : World) (ha : StrsAt w a ss) (hc : ss.length ≤ cap) (hn : ss.length ≤ 140737488355328) (hl : (joined ss).length ≤ 140737488355328) :
    Calls Tryd.prog 19 #[.slice a ss.length cap, .string ⟨#[]⟩] w fun e w' => e = .returned (.string (txt (joined ss))) ∧ Below w.heap.size w w' := by
  rcases ha with rfl | ⟨b, off, rfl, h⟩
  · refine (Tryd.strings_Join_none a cap ⟨#[]⟩ w).mono ?_
    rintro e w' ⟨rfl, rfl⟩
    exact ⟨rfl, Below.refl _ _⟩
  · by_cases h0 : ss = []
    · subst h0
      refine (Tryd.strings_Join_none _ cap ⟨#[]⟩ w).mono ?_
      rintro e w' ⟨rfl, rfl⟩
      exact ⟨rfl, Below.refl _ _⟩
    · have hp : 0 < ss.length := List.length_pos_iff.2 h0
      have hcell : ∀ (j : Nat) x, ss[j]? = some x → w.cell? ⟨b, off + j, none⟩ = some (.string x) := by
        intro j x hx
        have hj : j < ss.length := (List.getElem?_eq_some_iff.1 hx).1
        rw [h j hj, List.getD_eq_getElem?_getD, hx]; rfl
      have hb := block_lt (p := ⟨b, off + 0, none⟩) (h 0 hp)
      have e := join_joined ss
      refine (Tryd.strings_Join b off cap ss ⟨#[]⟩ w hcell hb hn hc (by
        show (Lib.join _ []).length ≤ _
        rw [e]; exact hl)).mono ?_
      rintro e' w' ⟨rfl, hb⟩
      refine ⟨?_, hb⟩
      show Ending.returned (.string ⟨(Lib.join _ []).toArray⟩) = _
      rw [e]; rfl
end
end Go.Proofs.YtckhdknehdjhoaaDoor
