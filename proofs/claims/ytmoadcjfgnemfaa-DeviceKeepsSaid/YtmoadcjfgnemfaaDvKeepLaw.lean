/-
  THE WALK OF quadrigalaw05.DeviceKeeps: it returns true, and writes nothing that was there.
-/
import Derived.Test.YtmoadcjfgnemfaaDvKeepB
namespace Go.Proofs.Ytmoadcjfgnemfaa
open Go.RowKit
theorem row_cell {W : World} {B g cap : Nat} {ts : List ByteArray} (h : RowS W B (.slice (some ⟨g, 0, none⟩) ts.length cap) ts) (j : Nat) (hj : j < ts.length) : W.cell? ⟨g, j, none⟩ = some (.string (ts.getD j ByteArray.empty)) := by
  rw [World.ownsRow.cellAt h j (by omega), List.getElem?_map, List.getD_eq_getElem?_getD, List.getElem?_eq_getElem hj]; rfl
set_option maxRecDepth 100000 in
set_option maxHeartbeats 8000000 in
theorem deviceKeeps_walk (fa : Option Addr) (fl : List ByteArray) (fc : Nat) (sa : Option Addr) (sl : List ByteArray) (sc : Nat) (ka : Option Addr) (kl : List Int) (kc : Nat) (w : World) (hfn : fl.length ≤ maxLen) (hfa : StrsAt w fa fl) (hsn : sl.length ≤ maxLen) (hsa : StrsAt w sa sl)
    (hkn : kl.length ≤ maxLen) (hkw : ∀ z ∈ kl, (Lit.int .i64 z).wf = true) (hka : IntsAt w ka kl) :
    Calls Try.prog 4 #[.slice fa fl.length fc, .slice sa sl.length sc, .slice ka kl.length kc] w fun e w' => e = .returned (.bool true) ∧ Below w.heap.size w w' := by
  have HFA := Lib.hid hfa; clear hfa
  have HSA := Lib.hid hsa; clear hsa
  have HKA := Lib.hid hka; clear hka
  have HKW := Lib.hid hkw; clear hkw
  have KA := Lib.hid (awake_any w)
  unfold maxLen at hfn hsn hkn
  by_cases f30 : 30 < fl.length
  · have f30 : (30 : Int) < (fl.length : Int) := by omega
    go_enter Try.func4, Try.ntmps4
    go_wp2_with fail
    refine KA.out.mono ?_
    rintro e w1 ⟨rfl, hb⟩
    go_wp2
    go_ret
    exact ⟨rfl, hb⟩
  have f30 : (fl.length : Int) ≤ 30 := by omega
  by_cases s30 : 30 < sl.length
  · have s30 : (30 : Int) < (sl.length : Int) := by omega
    go_enter Try.func4, Try.ntmps4
    go_wp2_with fail
    refine KA.out.mono ?_
    rintro e w1 ⟨rfl, hb⟩
    go_wp2
    go_ret
    exact ⟨rfl, hb⟩
  have s30 : (sl.length : Int) ≤ 30 := by omega
  by_cases k40 : 40 < kl.length
  · have k40 : (40 : Int) < (kl.length : Int) := by omega
    go_enter Try.func4, Try.ntmps4
    go_wp2_with fail
    refine KA.out.mono ?_
    rintro e w1 ⟨rfl, hb⟩
    go_wp2
    go_ret
    exact ⟨rfl, hb⟩
  have k40 : (kl.length : Int) ≤ 40 := by omega
  go_enter Try.func4, Try.ntmps4
  go_wp2_with fail
  refine KA.out.mono ?_
  rintro e w1 ⟨rfl, hb⟩
  have HB1 := Lib.hid hb; clear hb KA
  have KN := Lib.hid (new_dev 30 w1 (by omega) (by omega))
  go_wp2_with fail
  refine KN.out.mono ?_
  rintro e w2 ⟨D, P, L, M, rfl, hd, hb, q1, q2, q3⟩
  clear KN
  obtain ⟨B3, hB3⟩ : ∃ B, B = w2.heap.size := ⟨_, rfl⟩
  have hs1 := HB1.out.size
  have hs2 := hb.out.size
  obtain ⟨l1, l2, l3⟩ := hd.out.lts
  have l4 : M < w2.heap.size := by
    obtain ⟨_, hM, _⟩ := hd.out.mp
    exact hM.lt
  obtain ⟨las0, hlas0⟩ : ∃ l, l = List.replicate 30 blank64 := ⟨_, rfl⟩
  rw [← hlas0] at hd
  have HL0 : Hid (∀ j : Nat, j < 30 → las0.getD j blank64 = blank64) := fun j hj => by rw [hlas0, List.getD_eq_getElem?_getD, List.getElem?_replicate, if_pos hj]; rfl
  have T0 : Hid (Kp w w2 B3 D P L M 0 0 0 0 las0 (fun _ => none) (.slice none 0 0) (nowL las0 (fun _ => none) 0) 0 []) :=
    ⟨hd.out, ⟨by omega, by omega⟩, by omega, ok30.none, HB1.out.trans (hb.out.mono hs1), ⟨by omega, by omega, by omega⟩, ⟨by omega, by omega, by omega, by omega⟩, by omega, by omega, RowS.none _ _, fun q hq => by simp at hq, .inl rfl⟩
  clear hd hb q1 q2 q3 hB3 hs1 hs2 l1 l2 l3 l4 hlas0 HB1
  go_wp2
  go_loopw [8, 10] (fun v i wr => ∃ (j : Nat) (u lf : Int) (k : Nat) (f : Int → Option (List UInt8)), j ≤ 30 ∧ i = .int .i64 j ∧ Hid (Kp w wr B3 D P L M j u lf k las0 f v (nowL las0 f j) 0 []) ∧ Hid (∀ z : Int, (j : Int) ≤ z → f z = none)) (fun _ i _ => 30 - (intOf i).toNat)
  case atStart => exact ⟨0, 0, 0, 0, _, by omega, rfl, T0, fun _ _ => rfl⟩
  case round =>
    obtain ⟨j, u, lf, k, f, hj, rfl, T1, F1⟩ := hrel
    rename World => wa
    clear T0
    by_cases hlt : j < 30
    · have hj0 : (0 : Int) ≤ (j : Int) := by omega
      have hj1 : (j : Int) < 30 := by omega
      have KB := Lib.hid ((blank_any wa).mono fun e w' hh => (⟨hh.1, Lib.hid (T1.out.below hh.2)⟩ : e = .returned (.string (txt blank64)) ∧ Hid (Kp w w' B3 D P L M j u lf k las0 f u8 (nowL las0 f j) 0 [])))
      have NS := Lib.hid (nowL_add (las := las0) (F1.out j (Int.le_refl _)))
      have NU := Lib.hid (fun l => nowL_upd las0 f j l)
      have NL := nowL_len las0 f j
      have NL1 := nowL_len las0 f (j + 1)
      rw [HL0.out j hlt] at NS
      have F2 : Hid (∀ z : Int, ((j + 1 : Nat) : Int) ≤ z → f z = none) := fun z hz => F1.out z (by omega)
      have F3 : Hid (∀ l, ∀ z : Int, ((j + 1 : Nat) : Int) ≤ z → upd f j l z = none) := fun l z hz => by
        unfold upd
        rw [if_neg (by omega)]
        exact F1.out z (by omega)
      obtain ⟨n1, hn1⟩ : ∃ n, n = nowL las0 f (j + 1) := ⟨_, rfl⟩
      rw [← hn1] at NS NU NL1
      have HN1 := Lib.hid hn1
      clear hn1 T1 F1
      generalize nowL las0 f j = m1 at NS KB NL
      have hm1 : m1.length ≤ 100 := by omega
      generalize txt blank64 = t1 at KB NS
      go_wp2_with fail
      refine KB.out.mono ?_
      rintro e w4 ⟨rfl, T2⟩
      clear KB
      have hB4 := T2.out.sz
      have R2 := Lib.hid T2.out.row
      go_wp2_with (at_builtin; refine append_str rfl _ _ rfl B3 u8 m1 t1 rfl R2.out rfl hm1 hB4 ?_)
      intro v1 w5 r1 hg ho
      have T3 := Lib.hid (T2.out.append r1 hg ho)
      rw [← NS.out] at T3
      clear r1 hg ho T2 hB4 R2 NS hm1 NL
      by_cases hjl : j < fl.length
      · have hjl0 : (j : Int) < (fl.length : Int) := by omega
        obtain ⟨b, off, rfl, hc0⟩ := HFA.out.cell hjl
        have hc := Lib.hid hc0
        clear hc0
        generalize fl.getD j ByteArray.empty = s at hc
        have hc5 := keep_cell T3.out.bw hc.out
        by_cases h64 : s.size ≤ 64
        · have h64' : (s.size : Int) ≤ 64 := by omega
          have KW := Lib.hid (k_write T3.out (by omega) j hlt s h64)
          have NU1 := Lib.hid (NU.out (pad s.data.toList))
          have F4 := Lib.hid (F3.out (some (pad s.data.toList)))
          have KF := Lib.hid (fun W => fill_any s h64 W)
          generalize hf' : upd f (j : Int) (some (pad s.data.toList)) = f' at KW NU1 F4
          generalize txt (pad s.data.toList) = t2 at NU1 KF
          have hc5' : (w5.alloc (.cells #[.string s] 9)).cell? ⟨b, off + j, none⟩ = some (.string s) := keep_alloc hc5
          clear T3 F2 F3 NU hf'
          go_wp2_with fail
          refine KW.out.mono ?_
          rintro e w6 ⟨rfl, T4⟩
          clear KW hc5 hc5'
          obtain ⟨g, cap, rfl, hBg, _⟩ := T4.out.row.cells (by omega)
          have hc6 := keep_cell T4.out.bw hc.out
          have hjn : (j : Int) < (n1.length : Int) := by omega
          go_wp2_with fail
          refine (KF.out _).mono ?_
          rintro e w7 ⟨rfl, hb⟩
          have T5 := Lib.hid (T4.out.below hb)
          have T6 := Lib.hid (T5.out.store hBg j t2)
          rw [← NU1.out, NL1] at T6
          have hcell := row_cell T5.out.row j (by omega)
          have hfz := World.ownsRow.frozenAt T5.out.row j
          clear T4 T5 hb KF hc6
          go_wp2
          go_roundw
          case rel => exact ⟨j + 1, _, _, _, _, by omega, by go_num, T6, F4⟩
          case measure => simp [intOf]; omega
        · have h64' : (64 : Int) < (s.size : Int) := by omega
          have T4 := Lib.hid (T3.out.mono (c' := j + 1) (by omega))
          rw [HN1.out] at T4
          clear T3
          go_wp2
          go_roundw
          case rel => exact ⟨j + 1, _, _, _, _, by omega, by go_num, T4, F2⟩
          case measure => simp [intOf]; omega
      · have hjl0 : (fl.length : Int) ≤ (j : Int) := by omega
        have T4 := Lib.hid (T3.out.mono (c' := j + 1) (by omega))
        rw [HN1.out] at T4
        clear T3
        go_wp2
        go_roundw
        case rel => exact ⟨j + 1, _, _, _, _, by omega, by go_num, T4, F2⟩
        case measure => simp [intOf]; omega
    · have hj1 : (30 : Int) ≤ (j : Int) := by omega
      obtain rfl : j = 30 := by omega
      have T2 := Lib.hid (T1.out.mono (c' := 100) (by omega))
      clear T1 F1 HFA HL0 hj
      have KS := Lib.hid (k_sync T2.out (by omega))
      clear T2
      go_wp2_with fail
      refine KS.out.mono ?_
      rintro e w3 ⟨rfl, las, T3, HL⟩
      have NE := Lib.hid (nowL_eq HL.out)
      obtain ⟨cs, hcs⟩ : ∃ c, c = nowL las (fun _ => none) 30 := ⟨_, rfl⟩
      rw [NE.out, ← hcs] at T3
      have hc30 : cs.length = 30 := by rw [hcs, nowL_len]
      have HC : Hid (∀ j : Nat, j < 30 → cs.getD j ByteArray.empty = txt (las.getD j blank64)) := fun j hj => by rw [hcs, nowL_get _ _ _ _ hj]; rfl
      obtain ⟨g1, c1, rfl, hg1, hcell1⟩ := T3.out.row.cells (by omega)
      rw [hc30] at T3 ⊢
      have T4 : Hid (Kp w w3 B3 D P L M 101 (u + 1) lf k las (fun _ => none) (.slice none 0 0) (nowL las (fun _ => none) 0) g1 cs) :=
        { T3.out with row := RowS.none _ _, wc := hcell1, gl := .inr ⟨hg1, fun x => by cases x⟩ }
      clear T3 HL NE KS hcell1 hcs
      generalize u + 1 = u1 at T4
      clear u
      go_wp2
      go_loopw [9, 11] (fun v i wr => ∃ (j : Nat) (u lf : Int) (k : Nat) (f : Int → Option (List UInt8)), j ≤ 30 ∧ i = .int .i64 j ∧ Hid (Kp w wr B3 D P L M (101 + j) u lf k las f v (nowL las f j) g1 cs) ∧ Hid (∀ z : Int, (j : Int) ≤ z → f z = none)) (fun _ i _ => 30 - (intOf i).toNat)
      case atStart => exact ⟨0, u1, lf, k, _, by omega, rfl, T4, fun _ _ => rfl⟩
      case round =>
        clear lf k T4
        obtain ⟨j, u, lf, k, f, hj, rfl, T1, F1⟩ := hrel
        rename World => wb
        by_cases hlt : j < 30
        · have hj0 : (0 : Int) ≤ (j : Int) := by omega
          have hj1 : (j : Int) < 30 := by omega
          have NS := Lib.hid (nowL_add (las := las) (F1.out j (Int.le_refl _)))
          have NU := Lib.hid (fun l => nowL_upd las f j l)
          have NL := nowL_len las f j
          have NL1 := nowL_len las f (j + 1)
          rw [← HC.out j hlt] at NS
          have F2 : Hid (∀ z : Int, ((j + 1 : Nat) : Int) ≤ z → f z = none) := fun z hz => F1.out z (by omega)
          have F3 : Hid (∀ l, ∀ z : Int, ((j + 1 : Nat) : Int) ≤ z → upd f j l z = none) := fun l z hz => by
            unfold upd
            rw [if_neg (by omega)]
            exact F1.out z (by omega)
          obtain ⟨n1, hn1⟩ : ∃ n, n = nowL las f (j + 1) := ⟨_, rfl⟩
          rw [← hn1] at NS NU NL1
          have HN1 := Lib.hid hn1
          have hcw := T1.out.wc j (by omega)
          clear hn1 F1
          generalize nowL las f j = m1 at NS T1 NL
          have hm1 : m1.length ≤ 100 := by omega
          generalize cs.getD j ByteArray.empty = t1 at hcw NS
          have hB4 := T1.out.sz
          have R2 := Lib.hid T1.out.row
          go_wp2_with (at_builtin; refine append_str rfl _ _ rfl B3 u9 m1 t1 rfl R2.out rfl hm1 hB4 ?_)
          intro v1 w5 r1 hg ho
          have T3 := Lib.hid (T1.out.append r1 hg ho)
          rw [← NS.out] at T3
          clear r1 hg ho T1 hB4 R2 NS hm1 NL hcw
          by_cases hjl : j < sl.length
          · have hjl0 : (j : Int) < (sl.length : Int) := by omega
            obtain ⟨b, off, rfl, hc0⟩ := HSA.out.cell hjl
            have hc := Lib.hid hc0
            clear hc0
            generalize sl.getD j ByteArray.empty = s at hc
            have hc5 := keep_cell T3.out.bw hc.out
            by_cases h64 : s.size ≤ 64
            · have h64' : (s.size : Int) ≤ 64 := by omega
              have KW := Lib.hid (k_write T3.out (by omega) j hlt s h64)
              have NU1 := Lib.hid (NU.out (pad s.data.toList))
              have F4 := Lib.hid (F3.out (some (pad s.data.toList)))
              have KF := Lib.hid (fun W => fill_any s h64 W)
              generalize hf' : upd f (j : Int) (some (pad s.data.toList)) = f' at KW NU1 F4
              generalize txt (pad s.data.toList) = t2 at NU1 KF
              have hc5' : (w5.alloc (.cells #[.string s] 9)).cell? ⟨b, off + j, none⟩ = some (.string s) := keep_alloc hc5
              clear T3 F2 F3 NU hf'
              go_wp2_with fail
              refine KW.out.mono ?_
              rintro e w6 ⟨rfl, T4⟩
              clear KW hc5 hc5'
              obtain ⟨g, cap, rfl, hBg, _⟩ := T4.out.row.cells (by omega)
              have hc6 := keep_cell T4.out.bw hc.out
              have hjn : (j : Int) < (n1.length : Int) := by omega
              go_wp2_with fail
              refine (KF.out _).mono ?_
              rintro e w7 ⟨rfl, hb⟩
              have T5 := Lib.hid (T4.out.below hb)
              have T6 := Lib.hid (T5.out.store hBg j t2)
              rw [← NU1.out, NL1] at T6
              have hcell := row_cell T5.out.row j (by omega)
              have hfz := World.ownsRow.frozenAt T5.out.row j
              clear T4 T5 hb KF hc6
              go_wp2
              go_roundw
              case rel => exact ⟨j + 1, _, _, _, _, by omega, by go_num, T6, F4⟩
              case measure => simp [intOf]; omega
            · have h64' : (64 : Int) < (s.size : Int) := by omega
              have T4 := Lib.hid (T3.out.mono (c' := 101 + (j + 1)) (by omega))
              rw [HN1.out] at T4
              clear T3
              go_wp2
              go_roundw
              case rel => exact ⟨j + 1, _, _, _, _, by omega, by go_num, T4, F2⟩
              case measure => simp [intOf]; omega
          · have hjl0 : (sl.length : Int) ≤ (j : Int) := by omega
            have T4 := Lib.hid (T3.out.mono (c' := 101 + (j + 1)) (by omega))
            rw [HN1.out] at T4
            clear T3
            go_wp2
            go_roundw
            case rel => exact ⟨j + 1, _, _, _, _, by omega, by go_num, T4, F2⟩
            case measure => simp [intOf]; omega
        · have hj1 : (30 : Int) ≤ (j : Int) := by omega
          obtain rfl : j = 30 := by omega
          clear F1 HSA hj
          have HK := Lib.hid (keepLas_getD T1.out.f kl las T1.out.d.ll)
          have HN : Hid (∀ q : Nat, q < 30 → (nowL las f 30).getD q ByteArray.empty = txt (secAt las f q)) := fun q hq => nowL_get las f 30 q hq
          have hn30 := nowL_len las f 30
          generalize nowL las f 30 = ns at T1 HN hn30
          have KC := Lib.hid (k_crash T1.out ka kl kc (by omega) HKW.out HKA.out)
          clear T1
          go_wp2_with fail
          refine KC.out.mono ?_
          rintro e w4 ⟨rfl, T2⟩
          clear KC
          generalize keepLas f las kl = lak at HK T2
          obtain ⟨g2, c2, rfl, hg2, _⟩ := T2.out.row.cells (by omega)
          rw [hn30] at T2 ⊢
          go_wp2
          go_loopw [12] (fun i wr => ∃ (j : Nat), j ≤ 30 ∧ i = .int .i64 j ∧ Hid (Kp w wr B3 D P L M (101 + 30) u lf k lak (fun _ => none) (.slice (some ⟨g2, 0, none⟩) 30 c2) ns g1 cs)) (fun i _ => 30 - (intOf i).toNat)
          case atStart => exact ⟨0, by omega, rfl, T2⟩
          case round =>
            clear T2
            obtain ⟨j, hj, rfl, T3⟩ := hrel
            rename World => wc
            by_cases hlt : j < 30
            · have hj0 : (0 : Int) ≤ (j : Int) := by omega
              have hj1 : (j : Int) < 30 := by omega
              have KR := Lib.hid (k_read T3.out j hlt)
              have X := HK.out j hlt
              clear T3
              cases ha : kl.any (fun z => z == (j : Int)) with
              | true =>
                rw [ha, if_pos rfl] at X
                rw [X, ← HN.out j hlt] at KR
                clear X
                go_wp2_with fail
                refine KR.out.mono ?_
                rintro e w5 ⟨rfl, T4⟩
                clear KR
                have KH := Lib.hid ((refHas_any ka kl kc j w5 (by omega) (IntsAt.below HKA.out T4.out.bw)).mono fun _ _ hh => (⟨hh.1, hh.2.symm⟩ : _ ∧ _))
                rw [ha] at KH
                have T5 := T4.out.row
                rw [← hn30] at T5
                have hcell := row_cell T5 j (by omega)
                clear T5
                generalize ns.getD j ByteArray.empty = t at hcell ⊢
                go_wp2_with fail
                refine KH.out.mono ?_
                rintro e w6 ⟨rfl, rfl⟩
                go_wp2_with fail
                refine KH.out.mono ?_
                rintro e w6 ⟨rfl, rfl⟩
                go_wp2
                go_roundw
                case rel => exact ⟨j + 1, by omega, by go_num, T4⟩
                case measure => simp [intOf]; omega
              | false =>
                rw [ha, if_neg (by simp)] at X
                rw [X, ← HC.out j hlt] at KR
                clear X
                go_wp2_with fail
                refine KR.out.mono ?_
                rintro e w5 ⟨rfl, T4⟩
                clear KR
                have KH := Lib.hid ((refHas_any ka kl kc j w5 (by omega) (IntsAt.below HKA.out T4.out.bw)).mono fun _ _ hh => (⟨hh.1, hh.2.symm⟩ : _ ∧ _))
                rw [ha] at KH
                have hcell := T4.out.wc j (by omega)
                generalize cs.getD j ByteArray.empty = t at hcell ⊢
                go_wp2_with fail
                refine KH.out.mono ?_
                rintro e w6 ⟨rfl, rfl⟩
                go_wp2_with fail
                refine KH.out.mono ?_
                rintro e w6 ⟨rfl, rfl⟩
                go_wp2
                go_roundw
                case rel => exact ⟨j + 1, by omega, by go_num, T4⟩
                case measure => simp [intOf]; omega
            · have hj1 : (30 : Int) ≤ (j : Int) := by omega
              have KL := Lib.hid ((k_loose T3.out).mono fun e w' hh => (⟨hh.1, Lib.hid (T3.out.below hh.2)⟩ : e = .returned (.slice none 0 0) ∧ Hid (Kp w w' B3 D P L M (101 + 30) u lf k lak (fun _ => none) (.slice (some ⟨g2, 0, none⟩) 30 c2) ns g1 cs)))
              clear T3
              go_wp2_with fail
              refine KL.out.mono ?_
              rintro e w5 ⟨rfl, T4⟩
              go_wp2
              go_ret
              exact ⟨rfl, T4.out.bw⟩
end Go.Proofs.Ytmoadcjfgnemfaa
