/-
  THE CONTRACT OF quadrigaref01.Take: the document's answer is what nums.Take answers.
-/
import Derived.Test.YtcdnkmjjedbbpaaGreatDoorNuml
namespace Go.Proofs.YtcdnkmjjedbbpaaGreatDoor
open Go.RowKit

def refTakeVal (s : ByteArray) (size : Int) : Value :=
  match takeOf s size with
  | some (n, _) => .tuple #[.int .i64 n, .bool true]
  | none => .tuple #[.int .i64 0, .bool false]
theorem refTakeVal_some {s : ByteArray} {size : Int} (h : 1 ≤ size ∧ size ≤ 8 ∧ size ≤ s.size ∧ beVal (s.data.toList.take size.toNat) ≤ 9223372036854775807) :
    refTakeVal s size = .tuple #[.int .i64 (beVal (s.data.toList.take size.toNat)), .bool true] := by
  unfold refTakeVal takeOf; rw [if_pos h]
theorem refTakeVal_none {s : ByteArray} {size : Int} (h : ¬ (1 ≤ size ∧ size ≤ 8 ∧ size ≤ s.size ∧ beVal (s.data.toList.take size.toNat) ≤ 9223372036854775807)) :
    refTakeVal s size = .tuple #[.int .i64 0, .bool false] := by
  unfold refTakeVal takeOf; rw [if_neg h]

theorem beVal_append (l m : List UInt8) : beVal (l ++ m) = beVal l * 256 ^ m.length + beVal m := by
  unfold beVal
  rw [List.foldl_append, fold_from]
  rfl
theorem beVal_take_le (l : List UInt8) (i j : Nat) (h : i ≤ j) : beVal (l.take i) ≤ beVal (l.take j) := by
  have e : l.take j = l.take i ++ (l.take j).drop i := by
    conv => lhs; rw [← List.take_append_drop i (l.take j), List.take_take, Nat.min_eq_left h]
  rw [e, beVal_append]
  have : 0 < 256 ^ ((l.take j).drop i).length := Nat.pow_pos (by omega)
  have := Nat.le_mul_of_pos_right (beVal (l.take i)) this
  omega
theorem top_bit (s : ByteArray) (h : 8 ≤ s.size) : (9223372036854775807 < beVal (s.data.toList.take 8)) ↔ 128 ≤ (s[0]'(by omega)).toNat := by
  have e : s.data.toList.take 8 = s[0]'(by omega) :: (s.data.toList.take 8).drop 1 := by
    have h1 : s.data.toList.take 1 = [s[0]'(by omega)] := by
      have := take_snoc s 0 (by omega)
      simpa using this
    conv => lhs; rw [← List.take_append_drop 1 (s.data.toList.take 8), List.take_take, Nat.min_eq_left (by omega), h1]
    rfl
  have hl : ((s.data.toList.take 8).drop 1).length = 7 := by
    rw [List.length_drop, List.length_take]
    have : s.data.toList.length = s.size := by simp
    omega
  have hb := beVal_lt ((s.data.toList.take 8).drop 1)
  rw [e, beVal_cons]
  rw [hl] at hb ⊢
  omega

set_option maxRecDepth 100000 in
set_option maxHeartbeats 1000000 in
theorem refTake_any (s : ByteArray) (size : Int) (w : World) (hsz : -9223372036854775808 ≤ size ∧ size ≤ 9223372036854775807) (hs : s.size ≤ 140737488355328) :
    Calls Tryz.prog 38 #[.string s, .int .i64 size] w fun e w' => e = .returned (refTakeVal s size) ∧ w = w' := by
  by_cases h1 : 1 ≤ size
  · by_cases h8 : size ≤ 8
    · by_cases hl : size ≤ s.size
      · obtain ⟨k, rfl⟩ := Int.eq_ofNat_of_zero_le (a := size) (by omega)
        have hk1 : 1 ≤ k := by omega
        have hk8 : k ≤ 8 := by omega
        have hks : k ≤ s.size := by omega
        have hs0 : 0 < s.size := by omega
        have hu := s[0].toNat_lt
        by_cases hbig : beVal (s.data.toList.take k) ≤ 9223372036854775807
        · have htk := Lib.hid (refTakeVal_some (s := s) (size := (k : Int)) (by rw [Int.toNat_natCast]; exact ⟨h1, h8, hl, hbig⟩))
          rw [Int.toNat_natCast] at htk
          have hcond : (k : Int) = 8 → ¬ (128 : Int) ≤ (s[0].toNat : Int) := by
            intro e h
            have hk : k = 8 := by omega
            subst hk
            have := (top_bit s hks).2 (by omega)
            omega
          have HB : Hid (∀ j, j ≤ k → beVal (s.data.toList.take j) ≤ 9223372036854775807) := fun j hj => Nat.le_trans (beVal_take_le _ j k hj) hbig
          clear hbig
          by_cases hk : (k : Int) = 8
          · have hc := hcond hk
            have htk8 : Hid (refTakeVal s 8 = .tuple #[.int .i64 (beVal (s.data.toList.take k)), .bool true]) := by
              have := htk.out
              rw [hk] at this
              exact this
            clear hcond
            go_enter Tryz.func38, Tryz.ntmps38
            go_wp2
            go_loop [6, 7] (fun n r => ∃ (j V : Nat), j ≤ k ∧ r = .int .i64 j ∧ n = .int .i64 V ∧ Hid (V = beVal (s.data.toList.take j))) (fun _ i => k - (intOf i).toNat)
            case atStart => exact ⟨0, 0, Nat.zero_le _, rfl, rfl, by simp [Hid, beVal]⟩
            case round =>
              obtain ⟨j, V, hj, rfl, rfl, hv⟩ := hrel
              by_cases hlt : j < k
              · have hjs : j < s.size := by omega
                have HS := Lib.hid (take_snoc s j hjs)
                have hV := HB.out (j + 1) (by omega)
                rw [HS.out, beVal_snoc, ← hv.out] at hV
                have hcj := s[j].toNat_lt
                go_wp2
                go_round
                case rel => exact ⟨j + 1, V * 256 + s[j].toNat, by omega, by go_num, by go_num, by rw [Hid, HS.out, beVal_snoc, hv.out]⟩
                case measure => simp [intOf]; omega
              · have hjk : j = k := by omega
                subst hjk
                go_wp2
                go_ret2
                exact ⟨by first | (rw [htk.out, ← hv.out]; rfl) | (rw [htk8.out, ← hv.out]; rfl), rfl⟩
          · clear hcond
            go_enter Tryz.func38, Tryz.ntmps38
            go_wp2
            go_loop [6, 7] (fun n r => ∃ (j V : Nat), j ≤ k ∧ r = .int .i64 j ∧ n = .int .i64 V ∧ Hid (V = beVal (s.data.toList.take j))) (fun _ i => k - (intOf i).toNat)
            case atStart => exact ⟨0, 0, Nat.zero_le _, rfl, rfl, by simp [Hid, beVal]⟩
            case round =>
              obtain ⟨j, V, hj, rfl, rfl, hv⟩ := hrel
              by_cases hlt : j < k
              · have hjs : j < s.size := by omega
                have HS := Lib.hid (take_snoc s j hjs)
                have hV := HB.out (j + 1) (by omega)
                rw [HS.out, beVal_snoc, ← hv.out] at hV
                have hcj := s[j].toNat_lt
                go_wp2
                go_round
                case rel => exact ⟨j + 1, V * 256 + s[j].toNat, by omega, by go_num, by go_num, by rw [Hid, HS.out, beVal_snoc, hv.out]⟩
                case measure => simp [intOf]; omega
              · have hjk : j = k := by omega
                subst hjk
                go_wp2
                go_ret2
                exact ⟨by rw [htk.out, ← hv.out]; rfl, rfl⟩
        · have htk := Lib.hid (refTakeVal_none (s := s) (size := (k : Int)) (by rw [Int.toNat_natCast]; intro h; exact hbig h.2.2.2))
          have hk : k = 8 := by
            have h1 := beVal_lt (s.data.toList.take k)
            have h2 : (s.data.toList.take k).length ≤ k := by rw [List.length_take]; omega
            rcases Nat.lt_or_ge k 8 with hlt | hge
            · have h3 : 256 ^ (s.data.toList.take k).length ≤ 256 ^ 7 := Nat.pow_le_pow_right (by omega) (by omega)
              omega
            · omega
          subst hk
          have hc : (128 : Int) ≤ (s[0].toNat : Int) := by
            have := (top_bit s hks).1 (by omega)
            omega
          clear hbig
          go_enter Tryz.func38, Tryz.ntmps38
          go_wp2
          go_ret2
          exact ⟨by rw [htk.out]; rfl, rfl⟩
      · have htk := Lib.hid (refTakeVal_none (s := s) (size := size) (fun h => hl h.2.2.1))
        go_enter Tryz.func38, Tryz.ntmps38
        go_wp2
        go_ret2
        exact ⟨by rw [htk.out]; rfl, rfl⟩
    · have htk := Lib.hid (refTakeVal_none (s := s) (size := size) (fun h => h8 h.2.1))
      go_enter Tryz.func38, Tryz.ntmps38
      go_wp2
      go_ret2
      exact ⟨by rw [htk.out]; rfl, rfl⟩
  · have htk := Lib.hid (refTakeVal_none (s := s) (size := size) (fun h => h1 h.1))
    go_enter Tryz.func38, Tryz.ntmps38
    go_wp2
    go_ret2
    exact ⟨by rw [htk.out]; rfl, rfl⟩

/-- Both answer the same. -/
theorem takes_same (s : ByteArray) (size : Int) : ∃ (v : Int) (r : ByteArray) (c : Bool), takeVal s size = .tuple #[.int .i64 v, .string r, .bool c] ∧ refTakeVal s size = .tuple #[.int .i64 v, .bool c] ∧
    ((c = true ∧ ∃ d : Nat, size = d ∧ d ≤ s.size ∧ r = s.extract d s.size) ∨ (c = false ∧ r = s)) := by
  by_cases h : 1 ≤ size ∧ size ≤ 8 ∧ size ≤ s.size ∧ beVal (s.data.toList.take size.toNat) ≤ 9223372036854775807
  · exact ⟨_, _, _, takeVal_some h, refTakeVal_some h, .inl ⟨rfl, size.toNat, by omega, by omega, rfl⟩⟩
  · exact ⟨_, _, _, takeVal_none h, refTakeVal_none h, .inr ⟨rfl, rfl⟩⟩
end Go.Proofs.YtcdnkmjjedbbpaaGreatDoor
