/-
  THE CONTRACT OF head.Load, of a device that is on: the walk.
-/
import Derived.Test.YtpoagfldekppkaaDoorHdLoadA
namespace Go.Proofs.YtpoagfldekppkaaDoor
open Go.RowKit
section
variable {W : World} {D P L M n k : Nat} {uses left : Int} {las : List (List UInt8)} {f : Int → Option (List UInt8)}
/-- The sectors that Load reads. -/
def ldSec (las : List (List UInt8)) (f : Int → Option (List UInt8)) (i t : Nat) : ByteArray := Dv.txt (Dv.secAt las f (i + t))
theorem ldSec_small {armed : Bool} {w : World} (h : Dv.DevAt w D P L M n k false uses armed left las f) (i t : Nat) (hf : ∀ z l, f z = some l → l.length = 64) : (ldSec las f i t).size ≤ 100000 := by
  have : (Dv.secAt las f (i + t)).length = 64 := by
    unfold Dv.secAt
    split
    · rename_i l hl; exact hf _ l hl
    · exact h.len64 _
  unfold ldSec Dv.txt
  simp [ByteArray.size]
  omega
theorem ldSec_read {armed : Bool} {w : World} (h : Dv.DevAt w D P L M n k false uses armed left las f) (i : Nat) (hi : i + 2 ≤ n) (hn : n ≤ 4096) (hf : ∀ z l, f z = some l → l.length = 64) (t : Nat) (ht : t < 2) :
    Calls Tryd.prog 31 #[.pointer (some ⟨D, 0, none⟩), .int .i64 ((i : Int) + (t : Int))] w fun e w' => e = .returned (.tuple #[.string (ldSec las f i t), .int .i64 0]) ∧ Below w.heap.size w w' := by
  have := Dv.read_any h (i + t) (by omega) hn (fun l => hf _ l)
  rw [Int.natCast_add] at this
  exact this
theorem readHd_ok {s : ByteArray} {a b c d e : Int} (h : readHd s = some (a, b, c, d, e)) : hdOk a b c d e = true ∧ hdStr a b c d e = s := by
  unfold readHd at h
  split at h
  · split at h
    · rename_i hc
      injection h with h
      injection h with h1 h
      injection h with h2 h
      injection h with h3 h
      injection h with h4 h5
      subst h1 h2 h3 h4 h5
      exact hc
    · cases h
  · cases h
theorem readHd_seq {s : ByteArray} {a b c d e : Int} (h : readHd s = some (a, b, c, d, e)) : 0 ≤ a := (hdOk_parts (readHd_ok h).1).1.1
set_option maxRecDepth 100000 in
set_option maxHeartbeats 4000000 in
theorem load_any {armed : Bool} (w : World) (h : Dv.DevAt w D P L M n k false uses armed left las f) (i : Nat) (hi : i + 2 ≤ n) (hn : n ≤ 4096) (hf : ∀ z l, f z = some l → l.length = 64) (ht : Tab w) :
    Calls Tryd.prog 23 #[.pointer (some ⟨D, 0, none⟩), .int .i64 i] w (LdAns w (ldFrom (ldSec las f i) 0 (z5, false, true))) := by
  have KK := Lib.hid (fun W (h : Dv.DevAt W D P L M n k false uses armed left las f) => kept_yes h (i : Int) ⟨by omega, by omega⟩ hn)
  have KD2 := Lib.hid (fun W (h : Dv.DevAt W D P L M n k false uses armed left las f) t (ht : t < 2) => ldSec_read h i hi hn hf t ht)
  have HS := Lib.hid (fun t => ldSec_small h i t hf)
  generalize ldSec las f i = sec at *
  have KR := Lib.hid (fun t W (ht : Tab W) => hread_any (sec t) W (HS.out t) ht)
  have KT := Lib.hid (fun t W => Tryd.strings_Trim_one (sec t) 0 (by decide) W (Nat.le_trans (HS.out t) (by decide)))
  have HT := Lib.hid ht
  have HD := Lib.hid h
  have hi0 : (0 : Int) ≤ (i : Int) := by omega
  have hi1 : (i : Int) ≤ 4096 := by omega
  clear ht h hf
  obtain ⟨O, hO⟩ : ∃ O, ldFrom sec 0 (z5, false, true) = O := ⟨_, rfl⟩
  rw [hO]
  have HO := Lib.hid hO
  clear hO
  have Z0 := Lib.hid (z5_new w 44)
  have L0 := Lib.hid (ldW_new w 44)
  go_enter Tryd.func23, Tryd.ntmps23
  go_wp2_with fail
  refine (KK.out _ (HD.out.below Z0.out.bw)).mono ?_
  rintro x w' ⟨rfl, rfl⟩
  clear KK Z0
  go_wp2
  generalize (w.alloc (.cells #[.int .i64 0, .int .i64 0, .int .i64 0, .int .i64 0, .int .i64 0] 44)).alloc (.cells #[.int .i64 0, .int .i64 0, .int .i64 0, .int .i64 0, .int .i64 0] 44) = W0 at *
  generalize w.heap.size + 1 = B at *
  go_loopw [7, 8, 20] (fun fv bv iv wr => ∃ (t : Nat) (q : Hd5) (fd bl : Bool), t ≤ 2 ∧ iv = .int .i64 t ∧ fv = .bool fd ∧ bv = .bool bl ∧ Hid (ldFrom sec t (q, fd, bl) = O) ∧ Hid (LdW w wr B q)) (fun _ _ iv _ => 2 - (intOf iv).toNat)
  case atStart => exact ⟨0, z5, false, true, Nat.zero_le _, rfl, rfl, rfl, HO, L0⟩
  case round =>
    obtain ⟨t, q, fd, bl, ht, rfl, rfl, rfl, HQ, HW⟩ := hrel
    rename World => wa
    clear HO L0
    by_cases hlt : t < 2
    · have hk0 : (0 : Int) ≤ (t : Int) := by omega
      have hk1 : (t : Int) < 2 := by omega
      have HQ2 : Hid (ldFrom sec (t + 1) (ldStep t (q, fd, bl) (sec t)) = O) := by rw [Hid, ← ldFrom_step sec _ hlt]; exact HQ.out
      have HTa := Lib.hid (HT.out.below HW.out.z.bw)
      have KDa := Lib.hid (KD2.out wa (HD.out.below HW.out.z.bw) t hlt)
      have KTa := Lib.hid (KT.out t)
      have KRa := Lib.hid (KR.out t)
      have hss := HS.out t
      generalize sec t = s at *
      clear HQ KT KR KD2 HS HD HT
      go_wp2_with fail
      refine KDa.out.mono ?_
      rintro e w1 ⟨rfl, hb1⟩
      have HW1 := Lib.hid (HW.out.below hb1)
      have HT1 := Lib.hid (HTa.out.below hb1)
      clear hb1 HW HTa KDa
      cases bl with
      | true =>
        obtain ⟨tt, htt⟩ : ∃ tt : ByteArray, tt = ⟨(Lib.trimB s.data.toList 0).toArray⟩ := ⟨_, rfl⟩
        rw [← htt] at KTa
        have hz : tt.toList.isEmpty = allZ s := by rw [htt, ByteArray.toList_eq]; rfl
        clear htt
        go_wp2_with fail
        refine (KTa.out _).mono ?_
        rintro e w2 ⟨rfl, hw2⟩
        have hb2 : Below w1.heap.size w1 w2 := by
          rcases hw2 with rfl | rfl
          · exact Below.refl _ _
          · exact (Below.refl _ _).drew
        have HW2 := Lib.hid (HW1.out.below hb2)
        have HT2 := Lib.hid (HT1.out.below hb2)
        clear hb2 hw2 HW1 HT1 KTa
        cases hr : readHd s with
        | none =>
          rw [hr] at KRa
          have HQ3 : Hid (ldFrom sec (t + 1) (q, fd, (allZ s)) = O) := by
            have := HQ2.out
            unfold ldStep at this
            rw [hr] at this
            exact this
          clear HQ2 hr
          go_wp2_with fail
          refine (KRa.out _ HT2.out).mono ?_
          rintro e w3 ⟨rfl, hb3⟩
          have HW3 := Lib.hid ((HW2.out.below hb3).below ((Below.refl w3.heap.size w3).alloc (Nat.le_refl _) (.cells #[.int .i64 0, .int .i64 0, .int .i64 0, .int .i64 0, .int .i64 0] 44)))
          clear hb3 KRa HW2 HT2
          go_upto_region 12 with fail
          generalize w3.alloc (.cells #[.int .i64 0, .int .i64 0, .int .i64 0, .int .i64 0, .int .i64 0] 44) = Y at *
          go_wp2
          go_roundw
          case rel => exact ⟨t + 1, q, fd, (allZ s), by omega, by go_num, rfl, rfl, HQ3, HW3⟩
          case measure => simp [intOf]; omega
        | some h =>
          obtain ⟨s', e', c', st', m'⟩ := h
          have hs0 := readHd_seq hr
          rw [hr] at KRa
          go_wp2_with fail
          refine (KRa.out _ HT2.out).mono ?_
          rintro e w3 ⟨rfl, hb3⟩
          have h3 := C5.new w3 (.int .i64 s') (.int .i64 e') (.int .i64 c') (.int .i64 st') (.int .i64 m') 44
          have HW3 := Lib.hid ((HW2.out.below hb3).below ((Below.refl w3.heap.size w3).alloc (Nat.le_refl _) (.cells #[.int .i64 s', .int .i64 e', .int .i64 c', .int .i64 st', .int .i64 m'] 44)))
          have hq := HW3.out.b.h.c0
          clear hb3 KRa HW2 HT2
          go_upto_region 12 with fail
          generalize w3.alloc (.cells #[.int .i64 s', .int .i64 e', .int .i64 c', .int .i64 st', .int .i64 m'] 44) = Y at *
          generalize w3.heap.size = Q at *
          obtain ⟨y0, y1, y2, y3, y4⟩ := h3
          by_cases hm : s' % 2 = (t : Int)
          · have hm2 : s'.tmod 2 = (t : Int) := by rw [Int.tmod_eq_emod_of_nonneg hs0]; exact hm
            cases fd with
            | false =>
              have HQ3 : Hid (ldFrom sec (t + 1) ((s', e', c', st', m'), true, (allZ s)) = O) := by
                have := HQ2.out
                unfold ldStep at this
                rw [hr] at this
                simp only at this
                rw [if_pos ⟨hm, .inl trivial⟩] at this
                exact this
              clear HQ2 hr
              have HP := Lib.hid (HW3.out.put s' e' c' st' m')
              have bf := HW3.out.b.hf
              obtain ⟨b0, b1, b2, b3, b4⟩ := HW3.out.b.h
              clear hq
              go_wp2
              go_roundw
              case rel => exact ⟨t + 1, (s', e', c', st', m'), true, (allZ s), by omega, by go_num, rfl, rfl, HQ3, HP⟩
              case measure => simp [intOf]; omega
            | true =>
              by_cases hg : q.1 < s'
              · have HQ3 : Hid (ldFrom sec (t + 1) ((s', e', c', st', m'), true, (allZ s)) = O) := by
                  have := HQ2.out
                  unfold ldStep at this
                  rw [hr] at this
                  simp only at this
                  rw [if_pos ⟨hm, .inr hg⟩] at this
                  exact this
                clear HQ2 hr
                have HP := Lib.hid (HW3.out.put s' e' c' st' m')
                have bf := HW3.out.b.hf
                obtain ⟨b0, b1, b2, b3, b4⟩ := HW3.out.b.h
                clear hq
                go_wp2
                go_roundw
                case rel => exact ⟨t + 1, (s', e', c', st', m'), true, (allZ s), by omega, by go_num, rfl, rfl, HQ3, HP⟩
                case measure => simp [intOf]; omega
              · have HQ3 : Hid (ldFrom sec (t + 1) (q, true, (allZ s)) = O) := by
                  have := HQ2.out
                  unfold ldStep at this
                  rw [hr] at this
                  simp only at this
                  rw [if_neg (fun x => x.2.elim (fun y => by cases y) hg)] at this
                  exact this
                clear HQ2 hr
                go_wp2
                go_roundw
                case rel => exact ⟨t + 1, q, true, (allZ s), by omega, by go_num, rfl, rfl, HQ3, HW3⟩
                case measure => simp [intOf]; omega
          · have hm2 : ¬ s'.tmod 2 = (t : Int) := by rw [Int.tmod_eq_emod_of_nonneg hs0]; exact hm
            have HQ3 : Hid (ldFrom sec (t + 1) (q, fd, (allZ s)) = O) := by
              have := HQ2.out
              unfold ldStep at this
              rw [hr] at this
              simp only at this
              rw [if_neg (fun x => hm x.1)] at this
              exact this
            clear HQ2 hr
            go_wp2
            go_roundw
            case rel => exact ⟨t + 1, q, fd, (allZ s), by omega, by go_num, rfl, rfl, HQ3, HW3⟩
            case measure => simp [intOf]; omega
      | false =>
        clear KTa
        cases hr : readHd s with
        | none =>
          rw [hr] at KRa
          have HQ3 : Hid (ldFrom sec (t + 1) (q, fd, false) = O) := by
            have := HQ2.out
            unfold ldStep at this
            rw [hr] at this
            exact this
          clear HQ2 hr
          go_wp2_with fail
          refine (KRa.out _ HT1.out).mono ?_
          rintro e w3 ⟨rfl, hb3⟩
          have HW3 := Lib.hid ((HW1.out.below hb3).below ((Below.refl w3.heap.size w3).alloc (Nat.le_refl _) (.cells #[.int .i64 0, .int .i64 0, .int .i64 0, .int .i64 0, .int .i64 0] 44)))
          clear hb3 KRa HW1 HT1
          go_upto_region 12 with fail
          generalize w3.alloc (.cells #[.int .i64 0, .int .i64 0, .int .i64 0, .int .i64 0, .int .i64 0] 44) = Y at *
          go_wp2
          go_roundw
          case rel => exact ⟨t + 1, q, fd, false, by omega, by go_num, rfl, rfl, HQ3, HW3⟩
          case measure => simp [intOf]; omega
        | some h =>
          obtain ⟨s', e', c', st', m'⟩ := h
          have hs0 := readHd_seq hr
          rw [hr] at KRa
          go_wp2_with fail
          refine (KRa.out _ HT1.out).mono ?_
          rintro e w3 ⟨rfl, hb3⟩
          have h3 := C5.new w3 (.int .i64 s') (.int .i64 e') (.int .i64 c') (.int .i64 st') (.int .i64 m') 44
          have HW3 := Lib.hid ((HW1.out.below hb3).below ((Below.refl w3.heap.size w3).alloc (Nat.le_refl _) (.cells #[.int .i64 s', .int .i64 e', .int .i64 c', .int .i64 st', .int .i64 m'] 44)))
          have hq := HW3.out.b.h.c0
          clear hb3 KRa HW1 HT1
          go_upto_region 12 with fail
          generalize w3.alloc (.cells #[.int .i64 s', .int .i64 e', .int .i64 c', .int .i64 st', .int .i64 m'] 44) = Y at *
          generalize w3.heap.size = Q at *
          obtain ⟨y0, y1, y2, y3, y4⟩ := h3
          by_cases hm : s' % 2 = (t : Int)
          · have hm2 : s'.tmod 2 = (t : Int) := by rw [Int.tmod_eq_emod_of_nonneg hs0]; exact hm
            cases fd with
            | false =>
              have HQ3 : Hid (ldFrom sec (t + 1) ((s', e', c', st', m'), true, false) = O) := by
                have := HQ2.out
                unfold ldStep at this
                rw [hr] at this
                simp only at this
                rw [if_pos ⟨hm, .inl trivial⟩] at this
                exact this
              clear HQ2 hr
              have HP := Lib.hid (HW3.out.put s' e' c' st' m')
              have bf := HW3.out.b.hf
              obtain ⟨b0, b1, b2, b3, b4⟩ := HW3.out.b.h
              clear hq
              go_wp2
              go_roundw
              case rel => exact ⟨t + 1, (s', e', c', st', m'), true, false, by omega, by go_num, rfl, rfl, HQ3, HP⟩
              case measure => simp [intOf]; omega
            | true =>
              by_cases hg : q.1 < s'
              · have HQ3 : Hid (ldFrom sec (t + 1) ((s', e', c', st', m'), true, false) = O) := by
                  have := HQ2.out
                  unfold ldStep at this
                  rw [hr] at this
                  simp only at this
                  rw [if_pos ⟨hm, .inr hg⟩] at this
                  exact this
                clear HQ2 hr
                have HP := Lib.hid (HW3.out.put s' e' c' st' m')
                have bf := HW3.out.b.hf
                obtain ⟨b0, b1, b2, b3, b4⟩ := HW3.out.b.h
                clear hq
                go_wp2
                go_roundw
                case rel => exact ⟨t + 1, (s', e', c', st', m'), true, false, by omega, by go_num, rfl, rfl, HQ3, HP⟩
                case measure => simp [intOf]; omega
              · have HQ3 : Hid (ldFrom sec (t + 1) (q, true, false) = O) := by
                  have := HQ2.out
                  unfold ldStep at this
                  rw [hr] at this
                  simp only at this
                  rw [if_neg (fun x => x.2.elim (fun y => by cases y) hg)] at this
                  exact this
                clear HQ2 hr
                go_wp2
                go_roundw
                case rel => exact ⟨t + 1, q, true, false, by omega, by go_num, rfl, rfl, HQ3, HW3⟩
                case measure => simp [intOf]; omega
          · have hm2 : ¬ s'.tmod 2 = (t : Int) := by rw [Int.tmod_eq_emod_of_nonneg hs0]; exact hm
            have HQ3 : Hid (ldFrom sec (t + 1) (q, fd, false) = O) := by
              have := HQ2.out
              unfold ldStep at this
              rw [hr] at this
              simp only at this
              rw [if_neg (fun x => hm x.1)] at this
              exact this
            clear HQ2 hr
            go_wp2
            go_roundw
            case rel => exact ⟨t + 1, q, fd, false, by omega, by go_num, rfl, rfl, HQ3, HW3⟩
            case measure => simp [intOf]; omega
    · have HQ2 : Hid (ldEnd (q, fd, bl) = O) := by
        have := HQ.out
        rw [show t = 0 + 2 by omega, ldFrom] at this
        exact this
      have hk1 : (2 : Int) ≤ (t : Int) := by omega
      clear HQ KT KR KD2 HS HD HT
      obtain ⟨⟨r0, r1, r2, r3, r4⟩, rf, bw, _⟩ := HW.out.z
      obtain ⟨⟨b0, b1, b2, b3, b4⟩, bf⟩ := HW.out.b
      cases fd with
      | true =>
        have HO3 : O = (q, 0) := HQ2.out.symm
        subst HO3
        clear HQ2
        go_wp2
        obtain ⟨X, hX, ⟨x0, x1, x2, x3, x4⟩, hbX⟩ := set5 (v0 := .int .i64 q.1) (v1 := .int .i64 q.2.1) (v2 := .int .i64 q.2.2.1) (v3 := .int .i64 q.2.2.2.1) (v4 := .int .i64 q.2.2.2.2) ⟨r0, r1, r2, r3, r4⟩ bw (Nat.le_refl _)
        rw [hX]
        refine bodyPost_ret (v := .tuple #[.agg #[.int .i64 q.1, .int .i64 q.2.1, .int .i64 q.2.2.1, .int .i64 q.2.2.2.1, .int .i64 q.2.2.2.2], .int .i64 0]) ?_ rfl ⟨rfl, hbX⟩
        simp [results, Tryd.results23, go_sem, x0, x1, x2, x3, x4]
      | false =>
        clear b0 b1 b2 b3 b4 bf
        cases bl with
        | true =>
          have HO3 : O = (z5, 7) := HQ2.out.symm
          subst HO3
          clear HQ2
          go_wp2
          obtain ⟨X, hX, ⟨x0, x1, x2, x3, x4⟩, hbX⟩ := set5 (v0 := .int .i64 0) (v1 := .int .i64 0) (v2 := .int .i64 0) (v3 := .int .i64 0) (v4 := .int .i64 0) ⟨r0, r1, r2, r3, r4⟩ bw (Nat.le_refl _)
          rw [hX]
          refine bodyPost_ret (v := .tuple #[.agg #[.int .i64 0, .int .i64 0, .int .i64 0, .int .i64 0, .int .i64 0], .int .i64 7]) ?_ rfl ⟨rfl, hbX⟩
          simp [results, Tryd.results23, go_sem, x0, x1, x2, x3, x4]
        | false =>
          have HO3 : O = (z5, 9) := HQ2.out.symm
          subst HO3
          clear HQ2
          go_wp2
          obtain ⟨X, hX, ⟨x0, x1, x2, x3, x4⟩, hbX⟩ := set5 (v0 := .int .i64 0) (v1 := .int .i64 0) (v2 := .int .i64 0) (v3 := .int .i64 0) (v4 := .int .i64 0) ⟨r0, r1, r2, r3, r4⟩ bw (Nat.le_refl _)
          rw [hX]
          refine bodyPost_ret (v := .tuple #[.agg #[.int .i64 0, .int .i64 0, .int .i64 0, .int .i64 0, .int .i64 0], .int .i64 9]) ?_ rfl ⟨rfl, hbX⟩
          simp [results, Tryd.results23, go_sem, x0, x1, x2, x3, x4]
end
end Go.Proofs.YtpoagfldekppkaaDoor
