/-
  THE WALK OF quadrigalaw01.NumsRises: it returns true, and writes nothing that was there.
-/
import Derived.Test.YtcdnohgnmfaclaaNumsOrder
namespace Go.Proofs.Ytcdnohgnmfaclaa
open Go.RowKit

theorem one_int (w : World) (x : Int) (T : TypeId) : IntsAt (w.alloc (.cells #[.int .i64 x] T)) (some ⟨w.heap.size, 0, none⟩) [x] :=
  .inr ⟨w.heap.size, 0, rfl, fun i hi => by
    match i, hi with
    | 0, _ => simp [World.cell?_alloc_at]⟩

theorem put1_any (w : World) (K x : Int) (hK : 1 ≤ K ∧ K ≤ 8) (hx : (Lit.int .i64 x).wf = true) :
    ∀ W, Below w.heap.size w W → Calls Try.prog 16 #[.int .i64 K, .slice (some ⟨W.heap.size, 0, none⟩) 1 1] (W.alloc (.cells #[.int .i64 x] 3)) fun e w' => e = .returned (.string ⟨(putL K [x]).toArray⟩) ∧ Below w.heap.size w w' := fun W hW => by
  have hb : Below w.heap.size w (W.alloc (.cells #[.int .i64 x] 3)) := hW.alloc hW.size _
  refine (put_any K (some ⟨W.heap.size, 0, none⟩) [x] 1 _ (by omega) (by intro n hn; simp at hn; subst hn; exact hx) (by simp) (one_int W x _)).mono fun e w' h => ⟨h.1, hb.trans (h.2.mono hb.size)⟩
theorem put2_any (w : World) (K x y : Int) (hK : 1 ≤ K ∧ K ≤ 8) (hx : (Lit.int .i64 x).wf = true) (hy : (Lit.int .i64 y).wf = true) :
    ∀ W, Below w.heap.size w W → Calls Try.prog 16 #[.int .i64 K, .slice (some ⟨W.heap.size, 0, none⟩) 2 2] (W.alloc (.cells #[.int .i64 x, .int .i64 y] 3)) fun e w' => e = .returned (.string ⟨(putL K [x, y]).toArray⟩) ∧ Below w.heap.size w w' := fun W hW => by
  have hb : Below w.heap.size w (W.alloc (.cells #[.int .i64 x, .int .i64 y] 3)) := hW.alloc hW.size _
  refine (put_any K (some ⟨W.heap.size, 0, none⟩) [x, y] 2 _ (by omega) (by intro n hn; simp at hn; rcases hn with rfl | rfl <;> assumption) (by simp) (two_ints W x y _)).mono fun e w' h => ⟨h.1, hb.trans (h.2.mono hb.size)⟩

theorem putL_one (k : Nat) (x : Int) (h1 : 1 ≤ k) (h8 : k ≤ 8) : putL (k : Int) [x] = if fitsN k x then be k x.toNat else [] := by
  unfold putL fitsL
  simp [show (1 : Int) ≤ k from by omega, show (k : Int) ≤ 8 from by omega]
theorem putL_two (k : Nat) (x y : Int) (h1 : 1 ≤ k) (h8 : k ≤ 8) : putL (k : Int) [x, y] = if fitsN k x && fitsN k y then be k x.toNat ++ be k y.toNat else [] := by
  unfold putL fitsL
  simp [show (1 : Int) ≤ k from by omega, show (k : Int) ≤ 8 from by omega]

theorem cat_bytes (x y : List UInt8) : x ++ y = (ByteArray.mk x.toArray ++ ByteArray.mk y.toArray).toList := by
  have : (ByteArray.mk x.toArray ++ ByteArray.mk y.toArray).data = (x ++ y).toArray := by
    simp [ByteArray.data_append]
  generalize (ByteArray.mk x.toArray ++ ByteArray.mk y.toArray) = b at this
  obtain ⟨d⟩ := b
  simp at this
  subst this
  simp
theorem fitsN_parts {k : Nat} {x : Int} (h : fitsN k x = true) : 0 ≤ x ∧ x.toNat < 256 ^ k := by
  unfold fitsN at h
  simpa using h
theorem be_facts (k : Nat) (a b : Int) (h1 : 1 ≤ k) (ha : fitsN k a = true) (hb : fitsN k b = true) :
    (be k a.toNat).isEmpty = false ∧ Op.bytesLess (be k a.toNat) (be k b.toNat) = decide (a < b) ∧ (be k a.toNat == be k b.toNat) = (a == b) := by
  obtain ⟨a0, a1⟩ := fitsN_parts ha
  obtain ⟨b0, b1⟩ := fitsN_parts hb
  obtain ⟨l1, l2⟩ := be_less k a.toNat b.toNat
  rw [Nat.mod_eq_of_lt a1, Nat.mod_eq_of_lt b1] at l1 l2
  refine ⟨?_, ?_, ?_⟩
  · rw [← Bool.not_eq_true, List.isEmpty_iff]
    intro h
    have := be_len k a.toNat
    rw [h] at this; simp at this; omega
  · rw [l1]
    congr 1
    exact propext ⟨fun h => by omega, fun h => by omega⟩
  · rw [Bool.eq_iff_iff, beq_iff_eq, beq_iff_eq, l2]
    exact ⟨fun h => by omega, fun h => by rw [h]⟩

set_option maxHeartbeats 1000000 in
theorem numsRises_walk (z a b : Int) (w : World) (hz : (Lit.int .u8 z).wf = true) (ha : (Lit.int .i64 a).wf = true) (hb : (Lit.int .i64 b).wf = true) :
    Calls Try.prog 8 #[.int .u8 z, .int .i64 a, .int .i64 b] w fun e w' => e = .returned (.bool true) ∧ Below w.heap.size w w' := by
  have hz0 := bounds_u8 hz
  obtain ⟨k, hk⟩ : ∃ k : Nat, (k : Int) = 1 + z % 8 := ⟨(1 + z % 8).toNat, by omega⟩
  have hk1 : 1 ≤ k := by omega
  have hk8 : k ≤ 8 := by omega
  have HA := Lib.hid (put1_any w k a (by omega) ha)
  have HB := Lib.hid (put1_any w k b (by omega) hb)
  have HAB := Lib.hid (put2_any w k a b (by omega) ha hb)
  have HWk := Lib.hid fun W => awake_any W
  have HK := Lib.hid hk
  rw [putL_one k a hk1 hk8] at HA
  rw [putL_one k b hk1 hk8] at HB
  rw [putL_two k a b hk1 hk8] at HAB
  rw [hk] at HA HB HAB
  clear hk ha hb hz
  by_cases hfa : fitsN k a = true
  · rw [if_pos hfa] at HA
    by_cases hfb : fitsN k b = true
    · rw [if_pos hfb] at HB
      rw [hfa, hfb, Bool.and_self, if_pos rfl] at HAB
      obtain ⟨ex, eless, eeq⟩ := be_facts k a b hk1 hfa hfb
      obtain ⟨ey, _, _⟩ := be_facts k b a hk1 hfb hfa
      have el : ((be k a.toNat).length : Int) = 1 + z % 8 := by rw [be_len]; exact HK.out
      have lx : (be k a.toNat).length ≤ 8 := by rw [be_len]; exact hk8
      have ly : (be k b.toNat).length ≤ 8 := by rw [be_len]; exact hk8
      obtain ⟨x, hx⟩ : ∃ x, x = be k a.toNat := ⟨_, rfl⟩
      obtain ⟨y, hy⟩ : ∃ y, y = be k b.toNat := ⟨_, rfl⟩
      rw [← hx] at HA HAB ex eless eeq el lx
      rw [← hy] at HB HAB ey eless eeq ly
      clear hfa hfb hx hy
      go_enter Try.func8, Try.ntmps8
      go_wp2_with fail
      refine (HA.out _ (Below.refl _ _)).mono ?_
      rintro e w1 ⟨rfl, hb1⟩
      go_wp2_with fail
      refine (HB.out _ hb1).mono ?_
      rintro e w2 ⟨rfl, hb2⟩
      clear HA HB
      go_wp2_with fail
      refine (HAB.out _ hb2).mono ?_
      rintro e w3 ⟨rfl, hb3⟩
      have ecat : x ++ y = (ByteArray.mk x.toArray ++ ByteArray.mk y.toArray).toList := cat_bytes x y
      go_wp2_with fail
      refine (HWk.out _).mono ?_
      rintro e w4 ⟨rfl, hb4⟩
      have hb5 := hb3.trans (hb4.mono hb3.size)
      go_wp2
      go_ret
      exact ⟨rfl, hb5⟩
    · rw [if_neg hfb] at HB
      rw [hfa, Bool.eq_false_iff.2 hfb, Bool.and_false, if_neg (by decide)] at HAB
      obtain ⟨ex, _, _⟩ := be_facts k a a hk1 hfa hfa
      obtain ⟨x, hx⟩ : ∃ x, x = be k a.toNat := ⟨_, rfl⟩
      rw [← hx] at HA ex
      clear hfa hfb hx
      go_enter Try.func8, Try.ntmps8
      go_wp2_with fail
      refine (HA.out _ (Below.refl _ _)).mono ?_
      rintro e w1 ⟨rfl, hb1⟩
      go_wp2_with fail
      refine (HB.out _ hb1).mono ?_
      rintro e w2 ⟨rfl, hb2⟩
      clear HA HB
      go_wp2_with fail
      refine (HAB.out _ hb2).mono ?_
      rintro e w3 ⟨rfl, hb3⟩
      go_wp2_with fail
      refine (HWk.out _).mono ?_
      rintro e w4 ⟨rfl, hb4⟩
      have hb5 := hb3.trans (hb4.mono hb3.size)
      go_wp2
      go_ret
      exact ⟨rfl, hb5⟩
  · rw [if_neg hfa] at HA
    rw [Bool.eq_false_iff.2 hfa, Bool.false_and, if_neg (by decide)] at HAB
    obtain ⟨y, hy⟩ : ∃ y, y = (if fitsN k b = true then be k b.toNat else []) := ⟨_, rfl⟩
    rw [← hy] at HB
    clear hfa hy
    go_enter Try.func8, Try.ntmps8
    go_wp2_with fail
    refine (HA.out _ (Below.refl _ _)).mono ?_
    rintro e w1 ⟨rfl, hb1⟩
    go_wp2_with fail
    refine (HB.out _ hb1).mono ?_
    rintro e w2 ⟨rfl, hb2⟩
    clear HA HB
    go_wp2_with fail
    refine (HAB.out _ hb2).mono ?_
    rintro e w3 ⟨rfl, hb3⟩
    go_wp2_with fail
    refine (HWk.out _).mono ?_
    rintro e w4 ⟨rfl, hb4⟩
    have hb5 := hb3.trans (hb4.mono hb3.size)
    go_wp2
    go_ret
    exact ⟨rfl, hb5⟩
end Go.Proofs.Ytcdnohgnmfaclaa
