/-
  THE CONTRACT OF quadrigaref01.Put: a number in so many bytes, and whether it has no more.
-/
import Derived.Test.YtcdnkmjjedbbpaaGreatDoorNuml
namespace Go.Proofs.YtcdnkmjjedbbpaaGreatDoor
open Go.RowKit

theorem be_high (k n : Nat) (j : Nat) (hj : j ≤ k) (hn : n < 256 ^ j) : be k n = List.replicate (k - j) 0 ++ be j n := by
  induction k with
  | zero => have : j = 0 := by omega
            subst this; simp
  | succ k ih =>
    by_cases e : j = k + 1
    · subst e; simp
    · rw [be_succ, ih (by omega), show k + 1 - j = (k - j) + 1 from by omega, List.replicate_succ]
      have : n / 256 ^ k = 0 := Nat.div_eq_of_lt (Nat.lt_of_lt_of_le hn (Nat.pow_le_pow_right (by omega) (by omega)))
      rw [this]; rfl
theorem be_set (k n j : Nat) (hj : j < k) : (List.replicate (k - j) 0 ++ be j n).set (k - 1 - j) (UInt8.ofNat (n / 256 ^ j % 256)) = List.replicate (k - (j + 1)) 0 ++ be (j + 1) n := by
  rw [be_succ, show k - j = (k - (j + 1)) + 1 from by omega, List.replicate_succ', List.append_assoc, List.set_append_right _ _ (by rw [List.length_replicate]; omega), List.length_replicate,
    show k - 1 - j - (k - (j + 1)) = 0 from by omega]
  rfl
theorem byteVals_set (l : List UInt8) (j : Nat) (c : UInt8) : (byteVals l).set j (.int .u8 (c.toNat : Int)) = byteVals (l.set j c) := by
  simp [byteVals, List.map_set]
theorem byteVals_rep (k : Nat) : byteVals (List.replicate k 0) = List.replicate k (.int .u8 0) := by simp [byteVals]

set_option maxRecDepth 100000 in
set_option maxHeartbeats 1000000 in
theorem refPut_any (k : Nat) (n : Int) (w : World) (hk1 : 1 ≤ k) (hk8 : k ≤ 8) (hn : (Lit.int .i64 n).wf = true) :
    Calls Tryz.prog 70 #[.int .i64 k, .int .i64 n] w fun e w' => e = .returned (.tuple #[.string ⟨(be k n.toNat).toArray⟩, .bool (fitsN k n)]) ∧ Below w.heap.size w w' := by
  obtain ⟨i0, hi, hz0, hz1, hz2⟩ := info_parts infoB
  have hn0 := bounds_i64 hn
  clear hn
  go_enter Tryz.func70, Tryz.ntmps70
  go_wp2
  go_loopw [6, 7] (fun v i wr => ∃ j : Nat, j ≤ k ∧ i = .int .i64 j ∧ Hid (wr.ownsRow w.heap.size 5 1 v (List.replicate j (0 : UInt8)).length (byteVals (List.replicate j 0))) ∧ Below w.heap.size w wr) (fun _ i _ => k - (intOf i).toNat)
  case atStart => exact ⟨0, Nat.zero_le _, rfl, World.ownsRow_nil _ _ _ _, Below.refl _ _⟩
  case round =>
    obtain ⟨j, hj, rfl, hown, hbr⟩ := hrel
    by_cases hlt : j < k
    · have hsz2 := hbr.size
      have hown3 := hown.out
      rw [List.length_replicate] at hown3
      obtain ⟨FT, hFT⟩ : ∃ FT, FT = byteVals (List.replicate j (0 : UInt8)) := ⟨_, rfl⟩
      rw [← hFT] at hown3
      have HFT := Lib.hid hFT; clear hFT hown
      go_wp2_with (at_builtin; refine wpList_append_own _ rfl _ _ 45 rfl w.heap.size 5 i0 (.int .u8 0) 1 1 Tryz.underlying45 hi hz0 hz1 hz2 rfl (by decide) _ _ _ rfl (hown3.alloc _) ⟨wr.heap.size, 0, none⟩ 1 1 [.int .u8 0] rfl rfl ?c1 ?c2 ?c3 ?c4 ?c5 ?_)
      case c1 =>
        intro j u hj
        match j, hj with
        | 0, hj => simp at hj; subst hj; simp [Addr.add]
      case c2 => intro u hu; simp at hu; subst hu; rfl
      case c3 => unfold maxLen; omega
      case c4 => omega
      case c5 => simp; omega
      · intro v' w1 hown' hgrow _
        have hbn : Below w.heap.size w w1 := (hbr.alloc hsz2 _).grown hgrow (by simp; omega) (fun k hk => (hown3.lt k hk).1)
        have hbv2 : FT ++ [.int .u8 0] = byteVals (List.replicate (j + 1) 0) := by rw [HFT.out, byteVals_rep, byteVals_rep, List.replicate_succ']
        rw [hbv2] at hown'
        have HON : Hid (w1.ownsRow w.heap.size 5 1 v' (List.replicate (j + 1) (0 : UInt8)).length (byteVals (List.replicate (j + 1) 0))) := by
          rw [Hid, List.length_replicate]; exact hown'
        clear hown' hgrow hown3 hbv2
        go_wp2
        go_roundw
        case rel => exact ⟨j + 1, by omega, by go_num, HON.out, hbn⟩
        case measure => simp [intOf]; omega
    · have hjk : j = k := by omega
      subst hjk
      have h0 : List.replicate j (0 : UInt8) = List.replicate (j - 0) 0 ++ be 0 n.toNat := by simp [be]
      by_cases hneg : n < 0
      · have hb0 : List.replicate j (0 : UInt8) = be j n.toNat := by
          rw [h0, ← be_high j n.toNat 0 (Nat.zero_le _) (by rw [Int.toNat_of_nonpos (by omega)]; decide)]
        have HF : Hid (fitsN j n = false) := by rw [Hid]; unfold fitsN; simp; intro h; omega
        rw [hb0] at hown
        have kc := bytes_str hown.out
        have hne : (n == 0) = false := by rw [beq_eq_false_iff_ne]; omega
        clear h0 hb0
        go_wp2
        refine wp_loop_rounds 1 ?_
        rw [rounds_succ]
        go_wp2
        go_ret2
        exact ⟨by rw [HF.out]; rfl, hbr⟩
      · obtain ⟨N, rfl⟩ := Int.eq_ofNat_of_zero_le (a := n) (by omega)
        rw [Int.toNat_natCast] at h0
        rw [h0] at hown
        have HN : Hid ((be j (N : Int).toNat) = be j N) := by rw [Hid, Int.toNat_natCast]
        have hN0 : N / 256 ^ 0 = N := by simp
        clear h0
        go_wp2
        go_loopw [1, 8] (fun m i wr => ∃ (x M : Nat) (t : Int), x ≤ j ∧ i = .int .i64 t ∧ t + 1 + x = j ∧ m = .int .i64 M ∧ M ≤ N ∧ Hid (M = N / 256 ^ x) ∧
          Hid (wr.ownsRow w.heap.size 5 1 u6 j (byteVals (List.replicate (j - x) 0 ++ be x N))) ∧ Below w.heap.size w wr) (fun _ i _ => (intOf i + 1).toNat)
        case atStart =>
          refine ⟨0, N, (j : Int) - 1, Nat.zero_le _, rfl, by omega, rfl, Nat.le_refl _, hN0.symm, ?_, hbr⟩
          have := hown.out
          rw [List.length_append, List.length_replicate, be_len] at this
          exact this
        case round =>
          obtain ⟨x, M, t, hx, rfl, ht, rfl, hMN, hM, hown2, hbr2⟩ := hrel
          by_cases hM0 : M = 0
          · subst hM0
            have hlt2 : N < 256 ^ x := by
              have hp : 0 < 256 ^ x := Nat.pow_pos (by omega)
              exact (Nat.div_eq_zero_iff_lt hp).1 hM.out.symm
            have hrow := be_high j N x hx hlt2
            rw [← hrow] at hown2
            have hfit : fitsN j (N : Int) = true := by
              unfold fitsN
              have : 256 ^ x ≤ 256 ^ j := Nat.pow_le_pow_right (by omega) hx
              simp; omega
            have HF := Lib.hid hfit
            have ho := hown2.out
            rw [show j = (be j N).length from (be_len j N).symm] at ho
            have kc := bytes_str (l := be j N) (by rw [be_len] at ho ⊢; exact ho)
            clear hlt2 hrow hfit ho hM
            rcases Int.lt_or_le t 0 with ht0 | ht0
            all_goals
              go_wp2
              go_ret2
              exact ⟨by rw [HF.out]; rfl, hbr2⟩
          · by_cases hxj : x < j
            · obtain ⟨d, rfl⟩ := Int.eq_ofNat_of_zero_le (a := t) (by omega)
              have hd : d = j - 1 - x := by omega
              have hdj : d < j := by omega
              obtain ⟨g, C, rfl⟩ : ∃ g C, u6 = .slice (some ⟨g, 0, none⟩) j C := by
                rcases hown2.out.2 with ⟨_, h0⟩ | ⟨g, C, cur, hv, _⟩
                · omega
                · exact ⟨g, C, hv⟩
              have hcell : ∃ y, wr.cell? ⟨g, d, none⟩ = some y := by
                have hll : d < (byteVals (List.replicate (j - x) 0 ++ be x N)).length := by simp [byteVals, be_len]; omega
                exact ⟨_, by rw [hown2.out.cellAt d (by omega), List.getElem?_eq_getElem hll]⟩
              obtain ⟨y, hy⟩ := hcell
              have hfr := hown2.out.frozenAt d
              have hst := hown2.out.stored d (.int .u8 ((UInt8.ofNat (N / 256 ^ x % 256)).toNat : Int))
              rw [byteVals_set, hd, be_set j N x hxj, ← hd] at hst
              have hbval : ((UInt8.ofNat (N / 256 ^ x % 256)).toNat : Int) = (M : Int) % 256 := by
                rw [UInt8.toNat_ofNat', Nat.mod_eq_of_lt (by omega), ← hM.out]; omega
              rw [hbval] at hst
              have hgb : w.heap.size ≤ g := (hown2.out.lt g rfl).1
              have hbn : Below w.heap.size w (wr.setCell ⟨g, d, none⟩ (.int .u8 ((M : Int) % 256))) := hbr2.setCell hgb _
              have HS := Lib.hid hst.1
              have HMn : Hid (M / 256 = N / 256 ^ (x + 1)) := by rw [Hid, hM.out, Nat.pow_succ, Nat.div_div_eq_div_mul]
              clear hst hbval hown2 hM hd
              go_wp2
              go_roundw
              case rel => exact ⟨x + 1, M / 256, (d : Int) - 1, by omega, by go_num, by omega, by go_num, by omega, HMn.out, HS.out, hbn⟩
              case measure => simp [intOf] <;> omega
            · have hxe : x = j := by omega
              subst hxe
              have hrow : List.replicate (x - x) (0 : UInt8) ++ be x N = be x N := by simp
              rw [hrow] at hown2
              have hfit : fitsN x (N : Int) = false := by
                unfold fitsN
                have hp : 0 < 256 ^ x := Nat.pow_pos (by omega)
                have : ¬ N < 256 ^ x := fun h => hM0 (by rw [hM.out]; exact Nat.div_eq_of_lt h)
                simp; omega
              have HF := Lib.hid hfit
              have ho := hown2.out
              have kc := bytes_str (l := be x N) (by rw [be_len]; exact ho)
              have hMe : ((M : Int) == 0) = false := by rw [beq_eq_false_iff_ne]; omega
              clear hrow hfit ho hM
              go_wp2
              go_ret2
              exact ⟨by rw [HF.out]; rfl, hbr2⟩

/-- quadrigaref01.Laid. -/
theorem refLay_any (k : Nat) (n : Int) (w : World) (hk1 : 1 ≤ k) (hk8 : k ≤ 8) (hn : (Lit.int .i64 n).wf = true) :
    Calls Tryz.prog 56 #[.int .i64 k, .int .i64 n] w fun e w' => e = .returned (.string ⟨(be k n.toNat).toArray⟩) ∧ Below w.heap.size w w' := by
  have HP := Lib.hid (refPut_any k n w hk1 hk8 hn)
  clear hn
  go_enter Tryz.func56, Tryz.ntmps56
  go_wp2_with fail
  refine HP.out.mono ?_
  rintro e w1 ⟨rfl, hb1⟩
  go_wp2
  go_ret
  exact ⟨rfl, hb1⟩
end Go.Proofs.YtcdnkmjjedbbpaaGreatDoor
