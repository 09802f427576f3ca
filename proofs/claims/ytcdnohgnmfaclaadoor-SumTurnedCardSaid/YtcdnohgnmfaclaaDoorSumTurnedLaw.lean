/-
  THE WALK OF quadrigalaw02.SumTurned: it returns true, and writes nothing that was there.
-/
import Derived.Test.YtcdnohgnmfaclaaDoorSumBurst
import Derived.Test.YtcdnohgnmfaclaaDoorSumParts
import Derived.OpenShut
namespace Go.Proofs.YtcdnohgnmfaclaaDoor
open Go.RowKit Crc

theorem turn_place (c : Int) (n : Int) (h : 0 < n) : ∃ d : Nat, (IntKind.u64.wrap c).tmod n = (d : Int) ∧ (d : Int) < n := by
  have h0 : 0 ≤ IntKind.u64.wrap c := by rw [IntKind.wrap_u64]; omega
  rw [Int.tmod_eq_emod_of_nonneg h0]
  have h2 := Int.emod_nonneg (IntKind.u64.wrap c) (b := n) (by omega)
  have h3 := Int.emod_lt_of_pos (IntKind.u64.wrap c) h
  exact ⟨((IntKind.u64.wrap c) % n).toNat, by omega, by omega⟩

theorem seal_size (l : List UInt8) : (sealStr l).size = l.length + 4 := by
  show (sealStr l).data.size = _
  have : (sealStr l).data = l.toArray ++ (laidStr l).data := by unfold sealStr; rw [ByteArray.data_append]
  have h4 : (laidStr l).data.size = 4 := laid_size l
  rw [this, Array.size_append, h4]; simp

/-- What the walk is told of a text and of its turned one: they are one, and have one sum; or neither. -/
theorem turned_parts (s T : ByteArray) (at_ b : Nat) (hT : T = ⟨(turnTo at_ b 32 s.data.toList).toArray⟩) :
    T = s ∨ ((T.toList == s.toList) = false ∧ ((((crc T.data.toList).toNat : Int) == ((crc s.data.toList).toNat : Int)) = false)) := by
  by_cases h : turnTo at_ b 32 s.data.toList = s.data.toList
  · left; rw [hT, h]
  · right
    have hd : T.data.toList = turnTo at_ b 32 s.data.toList := by rw [hT]
    constructor
    · rw [beq_eq_false_iff_ne, ByteArray.toList_eq, ByteArray.toList_eq, hd]; exact h
    · rw [beq_eq_false_iff_ne, hd]
      intro e
      apply h
      apply turn_crc
      apply BitVec.eq_of_toNat_eq
      omega

theorem sealed_parts (l : List UInt8) (G : ByteArray) (at_ b : Nat) (hG : G = ⟨(turnTo at_ b 32 (sealStr l).data.toList).toArray⟩) :
    (G = sealStr l ∧ (openRes G).2 = true) ∨ ((G.toList == (sealStr l).toList) = false ∧ (openRes G).2 = false) := by
  by_cases h : turnTo at_ b 32 (sealStr l).data.toList = (sealStr l).data.toList
  · left
    have : G = sealStr l := by rw [hG, h]
    exact ⟨this, by rw [this, openRes_seal]⟩
  · right
    have hd : G.data.toList = turnTo at_ b 32 (sealStr l).data.toList := by rw [hG]
    constructor
    · rw [beq_eq_false_iff_ne, ByteArray.toList_eq, ByteArray.toList_eq, hd]; exact h
    · have hn : isSealed G = false := by
        cases hs : isSealed G
        · rfl
        · exact absurd (turn_seal at_ b l (by rw [← hG]; exact hs)) h
      simp [openRes, hn]

set_option maxHeartbeats 1000000 in
theorem sumTurned_walk (s : ByteArray) (at_ n0 : Int) (w : World) (hs : s.size ≤ maxLen) (hn0 : (Lit.int .u32 n0).wf = true) (ht : Tab w) :
    Calls Tryd.prog 5 #[.string s, .int .i64 at_, .int .u32 n0] w fun e w' => e = .returned (.bool true) ∧ Below w.heap.size w w' := by
  have HT := Lib.hid ht; clear ht
  unfold maxLen at hs
  obtain ⟨b, rfl⟩ : ∃ b : BitVec 32, n0 = (b.toNat : Int) := by
    have hb := bounds_u32 hn0
    exact ⟨BitVec.ofNat 32 n0.toNat, by rw [BitVec.toNat_ofNat, Nat.mod_eq_of_lt (by omega)]; omega⟩
  clear hn0
  have KA : ∀ W, Below w.heap.size w W → Calls Tryd.prog 8 #[] W fun e w' => e = .returned (.bool true) ∧ Below w.heap.size w w' := fun W hW =>
    (awake_any W (HT.out.below hW)).mono fun e w' h => ⟨h.1, hW.trans (h.2.mono hW.size)⟩
  have KA := Lib.hid KA
  by_cases h0 : s.size = 0
  · have h0' : (((s.size : Int)) == 0) = true := by simp [h0]
    clear h0 hs
    go_enter Tryd.func5, Tryd.ntmps5
    go_wp2_with fail
    refine (KA.out _ (Below.refl _ _)).mono ?_
    rintro e w7 ⟨rfl, hb7⟩
    go_wp2
    go_ret
    exact ⟨rfl, hb7⟩
  · by_cases hbig : s.size ≤ 1500
    · have hp : (0 : Int) < (s.size : Int) := by omega
      have hbig' : (s.size : Int) ≤ 1500 := by omega
      have hsl : s.data.toList.length = s.size := Array.length_toList
      obtain ⟨d1, ed1, hd1⟩ := turn_place at_ (8 * (s.size : Int)) (by omega)
      obtain ⟨d2, ed2, hd2⟩ := turn_place at_ (8 * (s.size : Int) + 32) (by omega)
      obtain ⟨T, hT⟩ : ∃ T : ByteArray, T = ⟨(turnTo d1 b.toNat 32 s.data.toList).toArray⟩ := ⟨_, rfl⟩
      obtain ⟨F, hF⟩ : ∃ F : ByteArray, F = sealStr s.data.toList := ⟨_, rfl⟩
      obtain ⟨G, hG⟩ : ∃ G : ByteArray, G = ⟨(turnTo d2 b.toNat 32 (sealStr s.data.toList).data.toList).toArray⟩ := ⟨_, rfl⟩
      have hFs : F.size = s.size + 4 := by rw [hF, seal_size, hsl]
      have hGs : G.size = s.size + 4 := by rw [hG]; show (List.toArray _).size = _; rw [List.size_toArray, turnTo_len, ← hF, Array.length_toList]; exact hFs
      have hTs : T.size = s.size := by rw [hT]; show (List.toArray _).size = _; rw [List.size_toArray, turnTo_len, hsl]
      have K1 : ∀ W, Below w.heap.size w W → Calls Tryd.prog 17 #[.string s, .int .i64 d1, .int .u32 (b.toNat : Int)] W fun e w' => e = .returned (.string T) ∧ Below w.heap.size w w' := fun W hW =>
        (turned_any s d1 b W (by omega) (by omega) (by omega)).mono fun e w' h => ⟨by rw [h.1, hT], hW.trans (h.2.mono hW.size)⟩
      have K2 : ∀ W, Below w.heap.size w W → Calls Tryd.prog 13 #[.slice (some ⟨W.heap.size, 0, none⟩) 1 1] (W.alloc (.cells #[.string s] 9)) fun e w' => e = .returned (.string F) ∧ Below w.heap.size w w' := fun W hW =>
        (seal_one s W (by omega) (HT.out.below hW)).mono fun e w' h => ⟨by rw [h.1, hF], hW.trans (h.2.mono hW.size)⟩
      have K3 : ∀ W, Below w.heap.size w W → Calls Tryd.prog 17 #[.string F, .int .i64 d2, .int .u32 (b.toNat : Int)] W fun e w' => e = .returned (.string G) ∧ Below w.heap.size w w' := fun W hW =>
        (turned_any F d2 b W (by omega) (by omega) (by omega)).mono fun e w' h => ⟨by rw [h.1, hG, hF], hW.trans (h.2.mono hW.size)⟩
      have K4 : ∀ W, Below w.heap.size w W → Calls Tryd.prog 14 #[.string G] W fun e w' => e = .returned (.tuple #[.string (openRes G).1, .bool (openRes G).2]) ∧ Below w.heap.size w w' := fun W hW =>
        (open_any G W (by unfold maxLen; omega) (HT.out.below hW)).mono fun e w' h => ⟨h.1, hW.trans (h.2.mono hW.size)⟩
      have K5 : ∀ (X : ByteArray), X.size ≤ 1500 → ∀ W, Below w.heap.size w W → Calls Tryd.prog 9 #[.slice (some ⟨W.heap.size, 0, none⟩) 1 1] (W.alloc (.cells #[.string X] 9)) fun e w' => e = .returned (.int .u32 ((crc X.data.toList).toNat : Int)) ∧ Below w.heap.size w w' := fun X hX W hW =>
        (of_one X W (by unfold maxLen; omega) (HT.out.below hW)).mono fun e w' h => ⟨h.1, hW.trans (h.2.mono hW.size)⟩
      have p1 := turned_parts s T d1 b.toNat hT
      have p2 := sealed_parts s.data.toList G d2 b.toNat hG
      rw [← hF] at p2
      have K1 := Lib.hid K1
      have K2 := Lib.hid K2
      have K3 := Lib.hid K3
      have K4 := Lib.hid K4
      have K5T := Lib.hid (K5 T (by omega))
      have K5s := Lib.hid (K5 s (by omega))
      obtain ⟨o1, ho1⟩ : ∃ o1, o1 = (openRes G).1 := ⟨_, rfl⟩
      obtain ⟨o2, ho2⟩ : ∃ o2, o2 = (openRes G).2 := ⟨_, rfl⟩
      rw [← ho1, ← ho2] at K4
      rw [← ho2] at p2
      obtain ⟨x1, hx1⟩ : ∃ x1, x1 = ((crc T.data.toList).toNat : Int) := ⟨_, rfl⟩
      obtain ⟨x2, hx2⟩ : ∃ x2, x2 = ((crc s.data.toList).toNat : Int) := ⟨_, rfl⟩
      rw [← hx1] at K5T p1
      rw [← hx2] at K5s p1
      have q1 : (T = s ∧ x1 = x2) ∨ ((T.toList == s.toList) = false ∧ (x1 == x2) = false) := by
        rcases p1 with h | h
        · left; exact ⟨h, by rw [hx1, hx2, h]⟩
        · right; exact h
      clear hT hF hG hFs hGs hTs hsl p1 ho1 ho2 hx1 hx2 K5
      have hw0 : Below w.heap.size w w := Below.refl _ _
      have hz : (((s.size : Int)) == 0) = false := by rw [beq_eq_false_iff_ne]; omega
      have hgt : decide (1500 < (s.size : Int)) = false := by simp; omega
      rcases q1 with ⟨hq, hq'⟩ | ⟨hq, hq'⟩
      all_goals rcases p2 with ⟨hp1, hp2⟩ | ⟨hp1, hp2⟩
      all_goals try subst hq
      all_goals try subst hq'
      all_goals try subst hp1
      all_goals try subst hp2
      all_goals
        go_enter Tryd.func5, Tryd.ntmps5
        go_wp2_with fail
        refine (K1.out _ hw0).mono ?_
        rintro e w1 ⟨rfl, hb1⟩
        go_wp2_with fail
        refine (K2.out _ hb1).mono ?_
        rintro e w2 ⟨rfl, hb2⟩
        go_wp2_with fail
        refine (K3.out _ hb2).mono ?_
        rintro e w3 ⟨rfl, hb3⟩
        go_wp2_with fail
        refine (K4.out _ hb3).mono ?_
        rintro e w4 ⟨rfl, hb4⟩
        go_wp2_with fail
        refine (K5T.out _ hb4).mono ?_
        rintro e w5 ⟨rfl, hb5⟩
        go_wp2_with fail
        refine (K5s.out _ hb5).mono ?_
        rintro e w6 ⟨rfl, hb6⟩
        go_wp2_with fail
        refine (KA.out _ hb6).mono ?_
        rintro e w7 ⟨rfl, hb7⟩
        go_wp2
        go_ret
        exact ⟨rfl, hb7⟩
    · have hbig' : (1500 : Int) < (s.size : Int) := by omega
      have hz : (((s.size : Int)) == 0) = false := by rw [beq_eq_false_iff_ne]; omega
      go_enter Tryd.func5, Tryd.ntmps5
      go_wp2_with fail
      refine (KA.out _ (Below.refl _ _)).mono ?_
      rintro e w7 ⟨rfl, hb7⟩
      go_wp2
      go_ret
      exact ⟨rfl, hb7⟩
end Go.Proofs.YtcdnohgnmfaclaaDoor
