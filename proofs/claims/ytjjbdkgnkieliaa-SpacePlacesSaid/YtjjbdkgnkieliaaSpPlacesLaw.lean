/-
  SpacePlaces: the walk.
-/
import Derived.Test.YtjjbdkgnkieliaaSpAwake
namespace Go.Proofs.Ytjjbdkgnkieliaa
open Go.RowKit
/-- What the law reckons: j times the byte. -/
def leftJ (q x m : Nat) : Nat → Nat
  | 0 => q
  | j + 1 => (leftJ q x m j + x) % m
theorem leftJ_eq (q x m : Nat) (hq : q < m) : ∀ j, leftJ q x m j = (q + x * j) % m
  | 0 => by simp [leftJ, Nat.mod_eq_of_lt hq]
  | j + 1 => by rw [leftJ, leftJ_eq q x m hq j, Nat.mul_succ, ← Nat.add_assoc, Nat.mod_add_mod]
set_option maxRecDepth 100000 in
set_option maxHeartbeats 4000000 in
theorem spacePlaces_walk (key : ByteArray) (pages : Int) (hp : -9223372036854775808 ≤ pages) (W : World) : Calls Try.prog 4 #[.string key, .int .i64 pages] W fun e w' => e = .returned (.bool true) ∧ Below W.heap.size W w' := by
  have KA := Lib.hid (awake_any W)
  by_cases h1 : 100 < key.size
  · have h1' : (100 : Int) < (key.size : Int) := by omega
    go_enter Try.func4, Try.ntmps4
    go_wp2_with fail
    refine KA.out.mono ?_
    rintro x w1 ⟨rfl, hb⟩
    go_wp2
    go_ret
    exact ⟨rfl, hb⟩
  · have h1' : (key.size : Int) ≤ 100 := by omega
    by_cases h2 : 1099511627776 < pages
    · go_enter Try.func4, Try.ntmps4
      go_wp2_with fail
      refine KA.out.mono ?_
      rintro x w1 ⟨rfl, hb⟩
      go_wp2
      go_ret
      exact ⟨rfl, hb⟩
    · have h2' : pages ≤ 1099511627776 := by omega
      by_cases h3 : pages < 1
      · have KP := Lib.hid (place_no key pages h3 W)
        go_enter Try.func4, Try.ntmps4
        go_wp2_with fail
        refine KP.out.mono ?_
        rintro x w1 ⟨rfl, rfl⟩
        go_wp2_with fail
        refine KA.out.mono ?_
        rintro x w1 ⟨rfl, hb⟩
        go_wp2
        go_ret
        exact ⟨rfl, hb⟩
      · obtain ⟨m, rfl⟩ := Int.eq_ofNat_of_zero_le (a := pages) (by omega)
        have hm1 : 0 < m := by omega
        have hm2 : m ≤ 1099511627776 := by omega
        have h3' : 1 ≤ (m : Int) := by omega
        have hk : key.size ≤ 100 := by omega
        have KP := Lib.hid (place_any key m hm1 hm2 hk W)
        clear h1 h2 h3
        go_enter Try.func4, Try.ntmps4
        go_wp2
        go_loopw [5, 6] (fun s i w' => W = w' ∧ ∃ k : Nat, k ≤ key.size ∧ i = .int .i64 k ∧ s = .int .i64 (placeN key m k : Nat)) (fun _ i _ => key.size - (intOf i).toNat)
        case atStart => exact ⟨rfl, 0, Nat.zero_le _, rfl, rfl⟩
        case round =>
          obtain ⟨rfl, k, hk', rfl, rfl⟩ := hrel
          by_cases hlt : k < key.size
          · have hp := placeN_lt key m hm1 k
            have hst : placeN key m (k + 1) = (placeN key m k + byteAt key k * (k + 1)) % m := rfl
            obtain ⟨q, hq⟩ : ∃ q, q = placeN key m k := ⟨_, rfl⟩
            rw [← hq] at hp hst ⊢
            have hx : byteAt key k = (key[k]'hlt).toNat := by unfold byteAt; rw [dif_pos hlt]
            obtain ⟨x, hxx⟩ : ∃ x, ∀ h, (key[k]'h).toNat = x := ⟨(key[k]'hlt).toNat, fun _ => rfl⟩
            have hx8 := byteAt_lt key k
            rw [hx, hxx] at hst hx8
            have HS := Lib.hid hst
            clear hst hx hq
            have hlt' : (k : Int) < (key.size : Int) := by omega
            go_wp2
            go_loopw [5, 7] (fun s i w' => W = w' ∧ ∃ j : Nat, j ≤ k + 1 ∧ i = .int .i64 j ∧ s = .int .i64 (leftJ q x m j : Nat)) (fun _ i _ => k + 1 - (intOf i).toNat)
            case atStart => exact ⟨rfl, 0, Nat.zero_le _, rfl, rfl⟩
            case round =>
              obtain ⟨rfl, j, hj, rfl, rfl⟩ := hrel
              by_cases hjl : j ≤ k
              · have hy : leftJ q x m j < m := by rw [leftJ_eq q x m hp]; exact Nat.mod_lt _ hm1
                have hs2 : leftJ q x m (j + 1) = (leftJ q x m j + x) % m := rfl
                obtain ⟨y, hyy⟩ : ∃ y, y = leftJ q x m j := ⟨_, rfl⟩
                rw [← hyy] at hy hs2 ⊢
                have HS2 := Lib.hid hs2
                clear hs2 hyy
                have hjl' : (j : Int) ≤ (k : Int) := by omega
                have w1 : IntKind.i64.wrap (x : Int) = (x : Int) := IntWalk.i64_in _ (by omega)
                have w2 : IntKind.i64.wrap ((y : Int) + (x : Int)) = (y : Int) + (x : Int) := IntWalk.i64_in _ (by omega)
                go_wp2
                go_round
                case rel =>
                  refine ⟨trivial, j + 1, by omega, by go_num, ?_⟩
                  rw [HS2.out, show (y : Int) + (x : Int) = ((y + x : Nat) : Int) by simp]
                  rfl
                case measure => simp [intOf]; omega
              · have e : j = k + 1 := by omega
                subst e
                have hjl' : (k : Int) < ((k + 1 : Nat) : Int) := by omega
                go_wp2
                go_round
                case rel =>
                  refine ⟨trivial, k + 1, by omega, by go_num, ?_⟩
                  rw [HS.out, leftJ_eq q x m hp]
                case measure => simp [intOf]; omega
          · have e : k = key.size := by omega
            subst e
            go_wp2_with fail
            refine KP.out.mono ?_
            rintro x w1 ⟨rfl, rfl⟩
            go_wp2_with fail
            refine KA.out.mono ?_
            rintro x w1 ⟨rfl, hb⟩
            go_wp2
            go_ret
            exact ⟨rfl, hb⟩
end Go.Proofs.Ytjjbdkgnkieliaa
