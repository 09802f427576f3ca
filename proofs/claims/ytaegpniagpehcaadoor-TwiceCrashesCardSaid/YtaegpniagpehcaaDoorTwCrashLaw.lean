/-
  TwiceCrashes: the walk.
-/
import Derived.Test.YtaegpniagpehcaaDoorTwCrashB
namespace Go.Proofs.YtaegpniagpehcaaDoor
open Go.RowKit
theorem RowP.base {W : World} {B C : Nat} {v : Value} {ps : List PgV} (h : RowP W B v ps) (hC : C ≤ B) : RowP W C v ps := by
  obtain ⟨h1, h2⟩ := h
  refine ⟨h1, ?_⟩
  rcases h2 with h2 | ⟨g, cap, cur, hv, hb, r⟩
  · exact .inl h2
  · exact .inr ⟨g, cap, cur, hv, Nat.le_trans hC hb, r⟩
theorem slice_one (b off m c k : Nat) (hk : k + 1 ≤ c) (h1 : Int) (e1 : h1 = (k : Int) + 1) (W : World) : (Instr.slice 22 (.slice (some ⟨b, off, none⟩) m c) (some (.int .i64 (k : Int))) (some (.int .i64 h1)) none).run Tryd.prog W = .ok (.slice (some ⟨b, off + k * 3, none⟩) 1 (c - k)) W := by
  have e : Tryd.prog.elem 22 = 38 := by kernel_rfl
  rw [run_slice_lh (P := Tryd.prog) (w := W) 22 (some ⟨b, off, none⟩) m c (by rw [e]; exact Tryd.underlying22) .i64 .i64 (k : Int) h1 (by omega) (by omega) (by omega), e, Tryd.sizeOf38, Int.toNat_natCast, show h1.toNat = k + 1 by omega]
  show Result.ok (sliced (some ⟨b, off, none⟩) k (k + 1) c 3) W = _
  unfold sliced
  have ea : (⟨b, off, none⟩ : Addr).add (k * 3) = ⟨b, off + k * 3, none⟩ := by unfold Addr.add; split <;> simp_all
  have hc : ¬ c = k := by omega
  simp [hc, ea]
theorem need6 (W : World) : Calls Tryd.prog 8 #[.int .i64 6] W fun x w' => x = .returned (.int .i64 29) ∧ W = w' := need_any 6 W
set_option maxRecDepth 100000 in
set_option maxHeartbeats 8000000 in
theorem twiceCrashes_walk (la : Option Addr) (l : List PgV) (lc : Nat) (ar ag : Nat) (ka : Option Addr) (ks : List Int) (kc : Nat) (oa : Option Addr) (ol : List Int) (oc : Nat) (w : World)
    (hll : l.length ≤ maxLen) (hlz : ∀ i, (l.getD i noPg).l.length ≤ maxLen) (hla : PgsAt w la l) (hlc : l.length ≤ lc) (har : ar ≤ 255) (hag : ag ≤ 255)
    (hkl : ks.length ≤ maxLen) (hkw : ∀ z ∈ ks, (Lit.int .i64 z).wf = true) (hk : IntsAt w ka ks) (hol : ol.length ≤ maxLen) (how : ∀ z ∈ ol, (Lit.int .i64 z).wf = true) (ho : IntsAt w oa ol) (ht : Tab w) :
    Calls Tryd.prog 3 #[.slice la l.length lc, .int .u8 (ar : Int), .int .u8 (ag : Int), .slice ka ks.length kc, .slice oa ol.length oc] w fun x w' => x = .returned (.bool true) ∧ Below w.heap.size w w' := by
  have KG := Lib.hid (great12_any la l lc w hll hla hlz)
  have KW := Lib.hid (fun W hT => awake12_any W W (Below.refl _ _) hT)
  have HT := Lib.hid ht
  clear ht
  unfold maxLen at hkl hol
  cases hgr : psGreat l with
  | true =>
    rw [hgr] at KG
    clear hgr hla hk ho hlz hkw how
    go_enter Tryd.func3, Tryd.ntmps3
    go_wp2_with fail
    refine KG.out.mono ?_
    rintro x w1 ⟨rfl, hb1⟩
    have HT1 := Lib.hid (HT.out.below hb1)
    go_wp2_with fail
    refine (KW.out _ HT1.out).mono ?_
    rintro x w2 ⟨rfl, hb2⟩
    have hb3 := hb1.trans (hb2.mono hb1.size)
    clear hb1 hb2 KG KW HT1 HT
    go_wp2
    go_ret
    exact ⟨rfl, hb3⟩
  | false =>
    rw [hgr] at KG
    by_cases hk6 : 60 < ks.length
    · have hk7 : (60 : Int) < (ks.length : Int) := by omega
      clear hgr hla hk ho hlz hkw how
      go_enter Tryd.func3, Tryd.ntmps3
      go_wp2_with fail
      refine KG.out.mono ?_
      rintro x w1 ⟨rfl, hb1⟩
      have HT1 := Lib.hid (HT.out.below hb1)
      go_wp2_with fail
      refine (KW.out _ HT1.out).mono ?_
      rintro x w2 ⟨rfl, hb2⟩
      have hb3 := hb1.trans (hb2.mono hb1.size)
      clear hb1 hb2 KG KW HT1 HT
      go_wp2
      go_ret
      exact ⟨rfl, hb3⟩
    · have hk7 : (ks.length : Int) ≤ 60 := by omega
      by_cases ho6 : 60 < ol.length
      · have ho7 : (60 : Int) < (ol.length : Int) := by omega
        clear hgr hla hk ho hlz hkw how
        go_enter Tryd.func3, Tryd.ntmps3
        go_wp2_with fail
        refine KG.out.mono ?_
        rintro x w1 ⟨rfl, hb1⟩
        have HT1 := Lib.hid (HT.out.below hb1)
        go_wp2_with fail
        refine (KW.out _ HT1.out).mono ?_
        rintro x w2 ⟨rfl, hb2⟩
        have hb3 := hb1.trans (hb2.mono hb1.size)
        clear hb1 hb2 KG KW HT1 HT
        go_wp2
        go_ret
        exact ⟨rfl, hb3⟩
      · have ho7 : (ol.length : Int) ≤ 60 := by omega
        obtain ⟨h20, hcg⟩ := psGreat_no hgr
        clear hgr
        have HLA := Lib.hid hla
        have HK0 := Lib.hid hk
        have HO0 := Lib.hid ho
        have HCG := Lib.hid hcg
        have HLZ := Lib.hid hlz
        clear hla hk ho hcg hlz
        go_enter Tryd.func3, Tryd.ntmps3
        go_wp2_with fail
        refine KG.out.mono ?_
        rintro x w1 ⟨rfl, hb1⟩
        go_wp2_with fail
        refine (KW.out _ (HT.out.below hb1)).mono ?_
        rintro x wb ⟨rfl, hb2⟩
        have Bb := Lib.hid (hb1.trans (hb2.mono hb1.size))
        have HTb := Lib.hid (HT.out.below Bb.out)
        have HL := Lib.hid (HLA.out.below Bb.out)
        have HK : Hid (IntsAt wb ka ks) := ints_below HK0.out Bb.out
        have HO : Hid (IntsAt wb oa ol) := ints_below HO0.out Bb.out
        clear hb1 hb2 KG KW HT HLA HK0 HO0
        have KN6 := Lib.hid need6
        go_wp2_with fail
        refine (KN6.out _).mono ?_
        rintro x w3 ⟨rfl, rfl⟩
        have KN := Lib.hid (c_new 29 wb wb (Below.refl _ _) HTb.out (by omega) (by omega))
        rw [show ((29 : Nat) : Int) = 29 from rfl] at KN
        clear KN6
        go_wp2_with fail
        refine KN.out.mono ?_
        rintro x w4 ⟨D, P, L, M, rfl, hd4, hb4⟩
        have KF := Lib.hid (c_fmt hd4 (by omega) (by omega) 6 (by omega) (by omega) (by omega))
        rw [show ((6 : Nat) : Int) = 6 from rfl] at KF
        clear hd4 hb4 KN
        go_wp2_with fail
        refine KF.out.mono ?_
        rintro x w5 ⟨T, rfl, hk5, hf5⟩
        have K5 := Lib.hid hk5
        have KE := Lib.hid (empty_any 6 (by omega) w5)
        rw [show ((6 : Nat) : Int) = 6 from rfl] at KE
        clear hk5 hf5 KF
        go_wp2_with fail
        refine KE.out.mono ?_
        rintro x w6 ⟨v, rfl, hr6, hb6⟩
        obtain ⟨R, cap, rfl, hR5⟩ : ∃ R cap, v = .slice (some ⟨R, 0, none⟩) 6 cap ∧ w5.heap.size ≤ R := by
          rcases hr6.slice with ⟨_, e⟩ | ⟨R, cap, e, h⟩
          · exact absurd (congrArg List.length e) (by rw [emP_len]; decide)
          · exact ⟨R, cap, e, h⟩
        have hRb : wb.heap.size ≤ R := Nat.le_trans K5.out.bw.size hR5
        have hRT : T ≠ R := by have := K5.out.ltT; omega
        have hRD : D ≠ R := by have := K5.out.ltT; omega
        have hRP : P ≠ R := by have := K5.out.lts; omega
        have hRL : L ≠ R := by have := K5.out.lts; omega
        have hRM : M ≠ R := by have := K5.out.lts; omega
        have R6 : Hid (LpR wb w6 R cap (emP 6) (fun _ => (0, []))) := ⟨hr6.base K5.out.bw.size, nowIs_em 6, fun i hi => .inl (by rw [emP_get 6 i hi]), fun i hi => Nat.zero_le _⟩
        have KA := Lib.hid (c_arm (K5.out.below hb6) (by intro e; cases e) ar (by omega))
        clear hr6 hb6 hR5 KE K5
        go_wp2_with fail
        refine KA.out.mono ?_
        rintro x w7 ⟨rfl, hk7', hf7⟩
        have A7 : Hid (LpA wb w7 D P L M T R cap 0) := ⟨_, _, _, R6.out.fr3 hf7 hRP hRL hRM, hk7'⟩
        clear hk7' hf7 KA R6
        go_wp2
        go_loopw [15, 16] (fun v15 v16 wr => ∃ k : Nat, k ≤ l.length ∧ v16 = .int .i64 k ∧ ((v15 = .slice none 0 0 ∧ Hid (LpA wb wr D P L M T R cap k)) ∨ (∃ b off j, k = j + 1 ∧ la = some ⟨b, off, none⟩ ∧ v15 = .slice (some ⟨b, off + j * 3, none⟩) 1 (lc - j) ∧ Hid (LpC wb wr D P L M R cap k (l.getD j noPg))))) (fun _ v16 _ => l.length - (intOf v16).toNat)
        case atStart => exact ⟨0, Nat.zero_le _, rfl, .inl ⟨rfl, A7⟩⟩
        case round =>
          obtain ⟨k, hk, rfl, hcase⟩ := hrel
          rename World => wa
          clear A7
          have hk0 : (0 : Int) ≤ (k : Int) := by omega
          obtain ⟨r, hr, hrm⟩ : ∃ r : Nat, r ≤ 15 ∧ ((ag : Int).tmod 16) = (r : Int) := ⟨ag % 16, by omega, by rw [Int.tmod_eq_emod_of_nonneg (by omega)]; omega⟩
          rcases hcase with ⟨rfl, HA⟩ | ⟨b, off, J, hkJ, rfl, rfl, HC⟩
          · obtain ⟨ps, now, pm, R0, K0⟩ := HA.out
            by_cases hlt : k < l.length
            · have hk1 : (k : Int) < (l.length : Int) := by omega
              rcases HL.out with hnil | ⟨b, off, rfl, hcs⟩
              · rw [hnil] at hlt; exact absurd hlt (Nat.not_lt_zero _)
              obtain ⟨b0, b1, b2, bcl⟩ := hcs k hlt
              have hlq := HLZ.out k
              obtain ⟨q, hq⟩ : ∃ q, q = l.getD k noPg := ⟨_, rfl⟩
              rw [← hq] at b0 b1 b2 bcl hlq
              clear hcs HA hrm hr
              have hba := (Below.refl wa.heap.size wa).alloc (Nat.le_refl _) (.cells #[.int .i64 q.no, .int .i64 q.g, .slice q.a q.l.length q.c] 38)
              have KS := Lib.hid (c_store K0 (by omega) (by omega) (by omega) q hlq bcl)
              have R1 := Lib.hid (R0.below hba)
              have c0 := Dv.keep_cell K0.bw b0
              have c1 := Dv.keep_cell K0.bw b1
              have c2 := Dv.keep_cell K0.bw b2
              clear K0 R0 hba
              obtain ⟨qn, hqn⟩ : ∃ z, z = q.no := ⟨_, rfl⟩
              obtain ⟨qg, hqg⟩ : ∃ z, z = q.g := ⟨_, rfl⟩
              obtain ⟨qa, hqa⟩ : ∃ z, z = q.a := ⟨_, rfl⟩
              obtain ⟨qm, hqm⟩ : ∃ z, z = q.l.length := ⟨_, rfl⟩
              obtain ⟨qc, hqc⟩ : ∃ z, z = q.c := ⟨_, rfl⟩
              have HQ := Lib.hid (show q.no = qn ∧ q.g = qg ∧ q.a = qa ∧ q.l.length = qm ∧ q.c = qc from ⟨hqn.symm, hqg.symm, hqa.symm, hqm.symm, hqc.symm⟩)
              rw [← hqn, ← hqg, ← hqa, ← hqm, ← hqc] at KS R1
              rw [← hqn] at c0
              rw [← hqg] at c1
              rw [← hqa, ← hqm, ← hqc] at c2
              clear hqn hqg hqa hqm hqc
              go_wp2_with fail
              refine KS.out.mono ?_
              rintro x w2 ⟨e, rfl, hout, hf2⟩
              have R2 := Lib.hid (R1.out.fr3 hf2 hRP hRL hRM)
              clear hf2 KS R1 c0 c1 c2
              rcases hout with ⟨rfl, hok, hno, pm2, hk2⟩ | ⟨rfl, hok, hno, hu2⟩ | ⟨rfl, pm2, hk2⟩
              · obtain ⟨kk, hkn⟩ : ∃ kk : Nat, q.no = (kk : Int) := ⟨q.no.toNat, by have := (pgOk_parts hok).1; omega⟩
                have hkk : kk < 6 := by omega
                have hk6a : (kk : Int) < 6 := by omega
                have hk6b : (0 : Int) ≤ (kk : Int) := by omega
                rw [hkn, Int.toNat_natCast] at hk2
                have c0 := Dv.keep_cell hk2.bw b0
                have c1 := Dv.keep_cell hk2.bw b1
                have c2 := Dv.keep_cell hk2.bw b2
                obtain ⟨⟨v0, s0⟩, ⟨v1, s1⟩, ⟨va, vm, vc, s2⟩, sf⟩ := R2.out.spot kk hkk
                have hXg := Lib.hid (set3_grown w2 R (kk * 3) (kk * 3 + 1) (kk * 3 + 2) (.int .i64 q.no) (.int .i64 q.g) (.slice q.a q.l.length q.c))
                have A3 : Hid (LpA wb (((w2.setCell ⟨R, kk * 3, none⟩ (.int .i64 q.no)).setCell ⟨R, kk * 3 + 1, none⟩ (.int .i64 q.g)).setCell ⟨R, kk * 3 + 2, none⟩ (.slice q.a q.l.length q.c)) D P L M T R cap (k + 1)) := by
                  refine ⟨_, _, pm2, R2.out.set kk hkk q hkn bcl (Nat.le_trans (pgOk_parts hok).2.2.2.2.1 (by omega)), ?_⟩
                  have := hk2.apart hXg.out hRb hRT hRD hRP hRL hRM
                  rw [show 30 + 14 * (k + 1) = 30 + 14 * k + 14 by omega]
                  exact this
                obtain ⟨g1, g2, g3, g4, g5⟩ := HQ.out
                rw [g1] at c0 hkn A3
                rw [g2] at c1 A3
                rw [g3, g4, g5] at c2 A3
                rw [hkn] at c0 A3
                clear hXg hk2 R2 HQ hok hno g1 g2 g3 g4 g5 hkn
                go_upto_region 16 with fail
                go_region
                go_wp2
                go_roundw
                case rel => exact ⟨k + 1, by omega, by go_num, .inl ⟨rfl, Lib.hid (A3.out.below (Below.refl _ _).drew)⟩⟩
                case measure => simp [intOf]; omega
              · have C3 : Hid (LpC wb w2 D P L M R cap (k + 1) (l.getD k noPg)) := by
                  rw [← hq]
                  refine ⟨_, _, R2.out, hok, hno, ?_⟩
                  rw [show 30 + 14 * (k + 1) = 30 + 14 * k + 14 by omega]
                  exact hu2
                have ksl := slice_one b off l.length lc k (by omega) ((k : Int) + 1) rfl
                have ksl2 := slice_one b off l.length lc k (by omega) (IntKind.i64.wrap ((k : Int) + 1)) (IntWalk.i64_in _ (by omega))
                clear hu2 R2 HQ hok hno
                go_wp2
                go_roundw
                case rel => exact ⟨k + 1, by omega, by go_num, .inr ⟨b, off, k, rfl, rfl, rfl, C3⟩⟩
                case measure => simp [intOf]; omega
              · have A3 : Hid (LpA wb w2 D P L M T R cap (k + 1)) := by
                  refine ⟨_, _, pm2, R2.out, ?_⟩
                  rw [show 30 + 14 * (k + 1) = 30 + 14 * k + 14 by omega]
                  exact hk2
                clear hk2 R2 HQ
                go_wp2
                go_roundw
                case rel => exact ⟨k + 1, by omega, by go_num, .inl ⟨rfl, A3⟩⟩
                case measure => simp [intOf]; omega
            · have hk1 : (l.length : Int) ≤ (k : Int) := by omega
              have R0 := Lib.hid R0
              have F0 := Lib.hid (K0.fell.mono (Q2 := fun g => Inv 6 g now ∨ Inv 6 g now) (fun g h => .inl h))
              clear K0 HA
              have KX := Lib.hid (c_crash F0.out ka ks kc (by omega) hkw (ints_in HK.out F0.out.bw F0.out.lo.2.1))
              clear F0
              go_wp2_with fail
              refine KX.out.mono ?_
              rintro x w11 ⟨rfl, hu11, hf11⟩
              have R11 := Lib.hid (R0.out.fr3 hf11 hRP hRL hRM)
              have KA2 := Lib.hid (c_arm_up hu11 r (by omega))
              clear hu11 hf11 KX R0
              go_wp2_with fail
              refine KA2.out.mono ?_
              rintro x w12 ⟨rfl, hu12, hf12⟩
              have R12 := Lib.hid (R11.out.fr3 hf12 hRP hRL hRM)
              clear hf12 KA2 R11
              obtain ⟨nowS, hu13, hS⟩ : ∃ nowS, Tar wb w12 D P L M 29 (30 + 14 * k) r (fun g => Inv 6 g nowS) ∧ Hid (nowS = now ∨ nowS = now) := by
                obtain ⟨g, hd, hq⟩ := hu12
                rcases hq with hq | hq
                · exact ⟨now, ⟨g, hd, hq⟩, .inl rfl⟩
                · exact ⟨now, ⟨g, hd, hq⟩, .inr rfl⟩
              have KO2 := Lib.hid (c_open_any hu13 (by omega) (by omega) (by omega) (by omega) (by omega))
              rw [show ((6 : Nat) : Int) = 6 from rfl] at KO2
              clear hu12 hu13
              go_wp2_with fail
              refine KO2.out.mono ?_
              rintro x w14 ⟨⟨vv, rfl⟩, hu14, hf14⟩
              have R14 := Lib.hid (R12.out.fr3 hf14 hRP hRL hRM)
              have KX2 := Lib.hid (c_crash hu14 oa ol oc (by omega) how (ints_in HO.out hu14.bw hu14.lo.2.1))
              clear hu14 hf14 KO2 R12
              go_wp2_with fail
              refine KX2.out.mono ?_
              rintro x w15 ⟨rfl, hu15, hf15⟩
              have R15 := Lib.hid (R14.out.fr3 hf15 hRP hRL hRM)
              have hR15 : R < w15.heap.size := (R15.out.row.at).2.1
              have KO3 := Lib.hid (c_open2 hu15 (by omega) (by omega) (by omega) (by omega) (by omega))
              rw [show ((6 : Nat) : Int) = 6 from rfl] at KO3
              clear hu15 hf15 KX2 R14
              go_wp2_with fail
              refine KO3.out.mono ?_
              rintro x w16 ⟨U, rfl, hk16, hf16, hUw⟩
              have hUR : U ≠ R := by omega
              have R16 := Lib.hid (R15.out.fr3 hf16 hRP hRL hRM)
              have K16 := Lib.hid hk16
              clear hk16 hf16 KO3 R15
              have hSn : nowS = now := by
                rcases hS.out with e | e
                · exact e
                · exact e
              subst hSn
              have KS := Lib.hid (same12 K16.out (by intro e; cases e) (by omega) (by omega) R ps cap (R16.out.pgs K16.out.bw) R16.out.is (fun i hi => Nat.le_trans (R16.out.sm i hi) (by omega)))
              have hbb := Lib.hid K16.out.bw
              have hlen := R16.out.len
              clear K16 R16 hS
              go_wp2_with fail
              refine KS.out.mono ?_
              rintro x w17 ⟨rfl, hb17⟩
              have hb18 := Bb.out.trans ((hbb.out.trans (hb17.mono hbb.out.size)).mono Bb.out.size)
              clear hb17 KS hbb Bb
              go_wp2
              go_ret
              exact ⟨rfl, hb18⟩
          · obtain ⟨ps, now, R0, hok, hno, F0⟩ := HC.out
            have R0 := Lib.hid R0
            rcases HL.out with hnil | ⟨b', off', e', hcs⟩
            · rw [hnil] at hk; rw [hkJ] at hk; exact absurd hk (by simp)
            injection e' with e'
            injection e' with e1 e2 _
            subst e1 e2
            obtain ⟨qc0, qc1, qc2, qcl⟩ := hcs J (by omega)
            obtain ⟨q, hq⟩ : ∃ q, q = l.getD J noPg := ⟨_, rfl⟩
            rw [← hq] at qc0 qc1 qc2 qcl hok hno F0
            obtain ⟨kk, hkn⟩ : ∃ kk : Nat, q.no = (kk : Int) := ⟨q.no.toNat, by have := (pgOk_parts hok).1; omega⟩
            have hkk : kk < 6 := by omega
            have hk6a : (kk : Int) < 6 := by omega
            have hk6b : (0 : Int) ≤ (kk : Int) := by omega
            rw [hkn, Int.toNat_natCast] at F0
            rw [hkn] at qc0 hok
            have F0 := Lib.hid F0
            clear hcs HC hq hno hkn
            rcases Nat.lt_or_ge k l.length with hlt | hlt
            · have hk1 : (k : Int) < (l.length : Int) := by omega
              have KX := Lib.hid (c_crash F0.out ka ks kc (by omega) hkw (ints_in HK.out F0.out.bw F0.out.lo.2.1))
              clear F0
              go_wp2_with fail
              refine KX.out.mono ?_
              rintro x w11 ⟨rfl, hu11, hf11⟩
              have R11 := Lib.hid (R0.out.fr3 hf11 hRP hRL hRM)
              have KA2 := Lib.hid (c_arm_up hu11 r (by omega))
              clear hu11 hf11 KX R0
              go_wp2_with fail
              refine KA2.out.mono ?_
              rintro x w12 ⟨rfl, hu12, hf12⟩
              have R12 := Lib.hid (R11.out.fr3 hf12 hRP hRL hRM)
              clear hf12 KA2 R11
              obtain ⟨nowS, hu13, hS⟩ : ∃ nowS, Tar wb w12 D P L M 29 (30 + 14 * k) r (fun g => Inv 6 g nowS) ∧ Hid (nowS = now ∨ nowS = (setPg now kk (q.g, q.l))) := by
                obtain ⟨g, hd, hq⟩ := hu12
                rcases hq with hq | hq
                · exact ⟨now, ⟨g, hd, hq⟩, .inl rfl⟩
                · exact ⟨(setPg now kk (q.g, q.l)), ⟨g, hd, hq⟩, .inr rfl⟩
              have KO2 := Lib.hid (c_open_any hu13 (by omega) (by omega) (by omega) (by omega) (by omega))
              rw [show ((6 : Nat) : Int) = 6 from rfl] at KO2
              clear hu12 hu13
              go_wp2_with fail
              refine KO2.out.mono ?_
              rintro x w14 ⟨⟨vv, rfl⟩, hu14, hf14⟩
              have R14 := Lib.hid (R12.out.fr3 hf14 hRP hRL hRM)
              have KX2 := Lib.hid (c_crash hu14 oa ol oc (by omega) how (ints_in HO.out hu14.bw hu14.lo.2.1))
              clear hu14 hf14 KO2 R12
              go_wp2_with fail
              refine KX2.out.mono ?_
              rintro x w15 ⟨rfl, hu15, hf15⟩
              have R15 := Lib.hid (R14.out.fr3 hf15 hRP hRL hRM)
              have hR15 : R < w15.heap.size := (R15.out.row.at).2.1
              have KO3 := Lib.hid (c_open2 hu15 (by omega) (by omega) (by omega) (by omega) (by omega))
              rw [show ((6 : Nat) : Int) = 6 from rfl] at KO3
              clear hu15 hf15 KX2 R14
              go_wp2_with fail
              refine KO3.out.mono ?_
              rintro x w16 ⟨U, rfl, hk16, hf16, hUw⟩
              have hUR : U ≠ R := by omega
              have R16 := Lib.hid (R15.out.fr3 hf16 hRP hRL hRM)
              have K16 := Lib.hid hk16
              clear hk16 hf16 KO3 R15
              have KP := Lib.hid (c_page K16.out (by intro e; cases e) (by omega) (by omega) kk hkk)
              have lc0 := Dv.keep_cell K16.out.bw qc0
              have lc1 := Dv.keep_cell K16.out.bw qc1
              have lc2 := Dv.keep_cell K16.out.bw qc2
              go_wp2_with fail
              refine KP.out.mono ?_
              rintro x w17 ⟨_, pa, pc, rfl, hr17, hb17⟩
              have hba := (Below.refl w17.heap.size w17).alloc (Nat.le_refl _) (.cells #[.int .i64 (kk : Int), .int .i64 (nowS kk).1, .slice pa (nowS kk).2.length pc] 38)
              have p0 : (w17.alloc (.cells #[.int .i64 (kk : Int), .int .i64 (nowS kk).1, .slice pa (nowS kk).2.length pc] 38)).cell? ⟨w17.heap.size, 0, none⟩ = some (.int .i64 (kk : Int)) := Dv.new_cell rfl rfl
              have p1 : (w17.alloc (.cells #[.int .i64 (kk : Int), .int .i64 (nowS kk).1, .slice pa (nowS kk).2.length pc] 38)).cell? ⟨w17.heap.size, 1, none⟩ = some (.int .i64 (nowS kk).1) := Dv.new_cell rfl rfl
              have p2 : (w17.alloc (.cells #[.int .i64 (kk : Int), .int .i64 (nowS kk).1, .slice pa (nowS kk).2.length pc] 38)).cell? ⟨w17.heap.size, 2, none⟩ = some (.slice pa (nowS kk).2.length pc) := Dv.new_cell rfl rfl
              have K18 := Lib.hid ((K16.out.below hb17).below hba)
              have R18 := Lib.hid ((R16.out.below hb17).below hba)
              have CP := Lib.hid (hr17.below hba)
              have hnew : R < w16.heap.size := (R16.out.row.at).2.1

              have l0 := Dv.keep_alloc (o := .cells #[.int .i64 (kk : Int), .int .i64 (nowS kk).1, .slice pa (nowS kk).2.length pc] 38) (Dv.keep_cell hb17 lc0)
              have l1 := Dv.keep_alloc (o := .cells #[.int .i64 (kk : Int), .int .i64 (nowS kk).1, .slice pa (nowS kk).2.length pc] 38) (Dv.keep_cell hb17 lc1)
              have l2 := Dv.keep_alloc (o := .cells #[.int .i64 (kk : Int), .int .i64 (nowS kk).1, .slice pa (nowS kk).2.length pc] 38) (Dv.keep_cell hb17 lc2)
              have CQ := Lib.hid (qcl.below K18.out.bw)
              have hsm1 : (nowS kk).2.length ≤ 1000000 := by
                rcases hS.out with e | e
                · rw [e]; exact Nat.le_trans (R16.out.sm kk hkk) (by omega)
                · rw [e, setPg_in]; exact Nat.le_trans (pgOk_parts hok).2.2.2.2.1 (by omega)
              clear hr17 hb17 hba KP K16 R16 lc0 lc1 lc2
              obtain ⟨ng, hng⟩ : ∃ z, z = (nowS kk).1 := ⟨_, rfl⟩
              obtain ⟨nl, hnl⟩ : ∃ z, z = (nowS kk).2 := ⟨_, rfl⟩
              have HNK : Hid (nowS kk = (ng, nl)) := by rw [Hid, hng, hnl]
              rw [← hng, ← hnl] at p0 p1 p2 l0 l1 l2 K18 R18 CP CQ
              rw [← hnl] at hsm1
              rw [← hng, ← hnl]
              clear hng hnl
              have KS1 := Lib.hid (refSame_any (kk : Int) ng pa nl pc (kk : Int) q.g q.a q.l q.c (w17.alloc (.cells #[.int .i64 (kk : Int), .int .i64 ng, .slice pa nl.length pc] 38)).drew (by have := (pgOk_parts hok).2.2.2.2.1; omega) CP.out.clsAt CQ.out)
              go_upto_region 28 with fail
              generalize hY : w17.alloc (.cells #[.int .i64 (kk : Int), .int .i64 ng, .slice pa nl.length pc] 38) = Y at *
              clear hY
              obtain ⟨qg, hqg⟩ : ∃ z, z = q.g := ⟨_, rfl⟩
              obtain ⟨qa, hqa⟩ : ∃ z, z = q.a := ⟨_, rfl⟩
              obtain ⟨qm, hqm⟩ : ∃ z, z = q.l.length := ⟨_, rfl⟩
              obtain ⟨qcc, hqc⟩ : ∃ z, z = q.c := ⟨_, rfl⟩
              rw [← hqg, ← hqa, ← hqm, ← hqc] at KS1
              rw [← hqg] at l1
              rw [← hqa, ← hqm, ← hqc] at l2
              have Hqg := Lib.hid hqg.symm
              clear hqg hqa hqm hqc qc0 qc1 qc2 CQ
              cases hsame : pgSame (kk : Int) ng nl (kk : Int) qg q.l with
              | true =>
                rw [hsame] at KS1
                have heq : ng = qg ∧ nl = q.l := by unfold pgSame at hsame; simpa using hsame
                have hN : Hid (nowS = (setPg now kk (q.g, q.l))) := by
                  rcases hS.out with e | e
                  · funext z
                    unfold setPg
                    split
                    · rename_i ez
                      rw [ez, HNK.out, heq.1, heq.2, Hqg.out]
                    · rw [e]
                  · exact e
                have heq2 := Lib.hid heq
                clear hsame hS heq
                go_wp2_with fail
                go_region_held3 (fun w' => w'.cell? ⟨w17.heap.size, 0, none⟩ = some (.int .i64 (kk : Int)) ∧ w'.cell? ⟨w17.heap.size, 1, none⟩ = some (.int .i64 ng) ∧ w'.cell? ⟨w17.heap.size, 2, none⟩ = some (.slice pa nl.length pc) ∧ w'.cell? ⟨b, off + J * 3, none⟩ = some (.int .i64 (kk : Int)) ∧ w'.cell? ⟨b, off + J * 3 + 1, none⟩ = some (.int .i64 qg) ∧ w'.cell? ⟨b, off + J * 3 + 2, none⟩ = some (.slice qa qm qcc))
                  ((refine ⟨?_, ?_, ?_, ?_, ?_, ?_⟩ <;> (repeat (first | with_reducible assumption | with_reducible refine tw_drew ?_ | with_reducible refine Dv.keep_cell (by assumption) ?_))))
                  (first | (go_at_call 16; refine KS1.out.mono ?_; rintro x w19 ⟨rfl, hb19⟩))
                have hb20 := (Below.refl Y.heap.size Y).drew.trans hb19
                have K20 := Lib.hid (K18.out.below hb20)
                have R20 := Lib.hid (R18.out.below hb20)
                have CP2 := Lib.hid (CP.out.below hb20)
                have t0 := Dv.keep_cell hb20 p0
                have t1 := Dv.keep_cell hb20 p1
                have t2 := Dv.keep_cell hb20 p2
                clear hb19 hb20 KS1 K18 R18 CP p0 p1 p2 l0 l1 l2
                obtain ⟨⟨v0, s0⟩, ⟨v1, s1⟩, ⟨va, vm, vc, s2⟩, sf⟩ := R20.out.spot kk hkk
                have hlen := R20.out.len
                have hXg := Lib.hid (set3_grown w19 R (kk * 3) (kk * 3 + 1) (kk * 3 + 2) (.int .i64 (kk : Int)) (.int .i64 ng) (.slice pa nl.length pc))
                have KU := Lib.hid (K20.out.apart hXg.out hRb hUR hRD hRP hRL hRM)
                have RX : Hid (RowP (((w19.setCell ⟨R, kk * 3, none⟩ (.int .i64 (kk : Int))).setCell ⟨R, kk * 3 + 1, none⟩ (.int .i64 ng)).setCell ⟨R, kk * 3 + 2, none⟩ (.slice pa nl.length pc)) wb.heap.size (.slice (some ⟨R, 0, none⟩) (ps.set kk ⟨(kk : Int), ng, pa, pc, nl⟩).length cap) (ps.set kk ⟨(kk : Int), ng, pa, pc, nl⟩)) := by
                  rw [Hid, List.length_set]
                  exact R20.out.row.set kk (by omega) ⟨(kk : Int), ng, pa, pc, nl⟩
                have CX : Hid (ClsAt (((w19.setCell ⟨R, kk * 3, none⟩ (.int .i64 (kk : Int))).setCell ⟨R, kk * 3 + 1, none⟩ (.int .i64 ng)).setCell ⟨R, kk * 3 + 2, none⟩ (.slice pa nl.length pc)) pa nl) := RowC.clsAt (B := w16.heap.size) (c := pc) (World.ownsRow.kept CP2.out hXg.out (by
                  cases ho : (Value.slice pa nl.length pc).ownBlock with
                  | none => exact .inl rfl
                  | some z => exact .inr (fun e => by
                      injection e with e
                      have := (CP2.out.lt z ho).1
                      omega)))
                have hPg := Lib.hid (RX.out.pgs (fun i hi => by
                  rw [List.getD_eq_getElem?_getD, List.getElem?_set]
                  by_cases e : kk = i
                  · rw [if_pos e, if_pos (by omega)]; exact CX.out
                  · rw [if_neg e, ← List.getD_eq_getElem?_getD]; exact (R20.out.cl i (by rw [List.length_set] at hi; omega)).below KU.out.bw))
                have hNi : Hid (NowIs 6 (ps.set kk ⟨(kk : Int), ng, pa, pc, nl⟩) nowS) := by
                  have := R20.out.is.set ⟨(kk : Int), ng, pa, pc, nl⟩ hkk rfl
                  have e1 : setPg now kk (ng, nl) = nowS := by rw [hN.out, heq2.out.1, heq2.out.2, Hqg.out]
                  change NowIs 6 _ (setPg now kk (ng, nl)) at this
                  rw [e1] at this
                  exact this
                have KS := Lib.hid (same12 KU.out (by intro e; cases e) (by omega) (by omega) R (ps.set kk ⟨(kk : Int), ng, pa, pc, nl⟩) cap hPg.out hNi.out (fun i hi => by
                  by_cases e : i = kk
                  · rw [e, HNK.out]; exact hsm1
                  · rw [hN.out, setPg_out e]; exact Nat.le_trans (R20.out.sm i hi) (by omega)))
                have hbb := Lib.hid KU.out.bw
                clear KU RX CX hPg hNi R20 K20 CP2 hXg HNK hN
                go_upto_region 32 with fail
                generalize hXX : ((w19.setCell ⟨R, kk * 3, none⟩ (.int .i64 (kk : Int))).setCell ⟨R, kk * 3 + 1, none⟩ (.int .i64 ng)).setCell ⟨R, kk * 3 + 2, none⟩ (.slice pa nl.length pc) = XX at *
                go_wp2_with fail
                refine KS.out.mono ?_
                rintro x w21 ⟨rfl, hb21⟩
                have hb22 := Bb.out.trans ((hbb.out.trans (hb21.mono hbb.out.size)).mono Bb.out.size)
                clear hb21 KS hbb Bb
                go_wp2
                go_ret
                exact ⟨rfl, hb22⟩
              | false =>
                rw [hsame] at KS1
                have hSn : nowS = now := by
                  rcases hS.out with e | e
                  · exact e
                  · have h1 := HNK.out
                    rw [e, setPg_in] at h1
                    have h2 : q.g = ng := congrArg Prod.fst h1
                    have h3 : q.l = nl := congrArg Prod.snd h1
                    have h4 : qg = ng := Hqg.out.symm.trans h2
                    rw [h4, h3, pgSame_rfl] at hsame
                    cases hsame
                clear hsame hS
                go_wp2_with fail
                go_region_held3 (fun w' => w'.cell? ⟨w17.heap.size, 0, none⟩ = some (.int .i64 (kk : Int)) ∧ w'.cell? ⟨w17.heap.size, 1, none⟩ = some (.int .i64 ng) ∧ w'.cell? ⟨w17.heap.size, 2, none⟩ = some (.slice pa nl.length pc) ∧ w'.cell? ⟨b, off + J * 3, none⟩ = some (.int .i64 (kk : Int)) ∧ w'.cell? ⟨b, off + J * 3 + 1, none⟩ = some (.int .i64 qg) ∧ w'.cell? ⟨b, off + J * 3 + 2, none⟩ = some (.slice qa qm qcc))
                  ((refine ⟨?_, ?_, ?_, ?_, ?_, ?_⟩ <;> (repeat (first | with_reducible assumption | with_reducible refine tw_drew ?_ | with_reducible refine Dv.keep_cell (by assumption) ?_))))
                  (first | (go_at_call 16; refine KS1.out.mono ?_; rintro x w19 ⟨rfl, hb19⟩))
                have hb20 := (Below.refl Y.heap.size Y).drew.trans hb19
                have K16 := Lib.hid (K18.out.below hb20)
                have R16 := Lib.hid (R18.out.below hb20)
                clear hb19 hb20 KS1 K18 R18 CP p0 p1 p2 l0 l1 l2
                subst hSn
                have KS := Lib.hid (same12 K16.out (by intro e; cases e) (by omega) (by omega) R ps cap (R16.out.pgs K16.out.bw) R16.out.is (fun i hi => Nat.le_trans (R16.out.sm i hi) (by omega)))
                have hbb := Lib.hid K16.out.bw
                have hlen := R16.out.len
                clear K16 R16
                go_wp2_with fail
                refine KS.out.mono ?_
                rintro x w21 ⟨rfl, hb21⟩
                have hb22 := Bb.out.trans ((hbb.out.trans (hb21.mono hbb.out.size)).mono Bb.out.size)
                clear hb21 KS hbb Bb
                go_wp2
                go_ret
                exact ⟨rfl, hb22⟩
            · have hk1 : (l.length : Int) ≤ (k : Int) := by omega
              have KX := Lib.hid (c_crash F0.out ka ks kc (by omega) hkw (ints_in HK.out F0.out.bw F0.out.lo.2.1))
              clear F0
              go_wp2_with fail
              refine KX.out.mono ?_
              rintro x w11 ⟨rfl, hu11, hf11⟩
              have R11 := Lib.hid (R0.out.fr3 hf11 hRP hRL hRM)
              have KA2 := Lib.hid (c_arm_up hu11 r (by omega))
              clear hu11 hf11 KX R0
              go_wp2_with fail
              refine KA2.out.mono ?_
              rintro x w12 ⟨rfl, hu12, hf12⟩
              have R12 := Lib.hid (R11.out.fr3 hf12 hRP hRL hRM)
              clear hf12 KA2 R11
              obtain ⟨nowS, hu13, hS⟩ : ∃ nowS, Tar wb w12 D P L M 29 (30 + 14 * k) r (fun g => Inv 6 g nowS) ∧ Hid (nowS = now ∨ nowS = (setPg now kk (q.g, q.l))) := by
                obtain ⟨g, hd, hq⟩ := hu12
                rcases hq with hq | hq
                · exact ⟨now, ⟨g, hd, hq⟩, .inl rfl⟩
                · exact ⟨(setPg now kk (q.g, q.l)), ⟨g, hd, hq⟩, .inr rfl⟩
              have KO2 := Lib.hid (c_open_any hu13 (by omega) (by omega) (by omega) (by omega) (by omega))
              rw [show ((6 : Nat) : Int) = 6 from rfl] at KO2
              clear hu12 hu13
              go_wp2_with fail
              refine KO2.out.mono ?_
              rintro x w14 ⟨⟨vv, rfl⟩, hu14, hf14⟩
              have R14 := Lib.hid (R12.out.fr3 hf14 hRP hRL hRM)
              have KX2 := Lib.hid (c_crash hu14 oa ol oc (by omega) how (ints_in HO.out hu14.bw hu14.lo.2.1))
              clear hu14 hf14 KO2 R12
              go_wp2_with fail
              refine KX2.out.mono ?_
              rintro x w15 ⟨rfl, hu15, hf15⟩
              have R15 := Lib.hid (R14.out.fr3 hf15 hRP hRL hRM)
              have hR15 : R < w15.heap.size := (R15.out.row.at).2.1
              have KO3 := Lib.hid (c_open2 hu15 (by omega) (by omega) (by omega) (by omega) (by omega))
              rw [show ((6 : Nat) : Int) = 6 from rfl] at KO3
              clear hu15 hf15 KX2 R14
              go_wp2_with fail
              refine KO3.out.mono ?_
              rintro x w16 ⟨U, rfl, hk16, hf16, hUw⟩
              have hUR : U ≠ R := by omega
              have R16 := Lib.hid (R15.out.fr3 hf16 hRP hRL hRM)
              have K16 := Lib.hid hk16
              clear hk16 hf16 KO3 R15
              have KP := Lib.hid (c_page K16.out (by intro e; cases e) (by omega) (by omega) kk hkk)
              have lc0 := Dv.keep_cell K16.out.bw qc0
              have lc1 := Dv.keep_cell K16.out.bw qc1
              have lc2 := Dv.keep_cell K16.out.bw qc2
              go_wp2_with fail
              refine KP.out.mono ?_
              rintro x w17 ⟨_, pa, pc, rfl, hr17, hb17⟩
              have hba := (Below.refl w17.heap.size w17).alloc (Nat.le_refl _) (.cells #[.int .i64 (kk : Int), .int .i64 (nowS kk).1, .slice pa (nowS kk).2.length pc] 38)
              have p0 : (w17.alloc (.cells #[.int .i64 (kk : Int), .int .i64 (nowS kk).1, .slice pa (nowS kk).2.length pc] 38)).cell? ⟨w17.heap.size, 0, none⟩ = some (.int .i64 (kk : Int)) := Dv.new_cell rfl rfl
              have p1 : (w17.alloc (.cells #[.int .i64 (kk : Int), .int .i64 (nowS kk).1, .slice pa (nowS kk).2.length pc] 38)).cell? ⟨w17.heap.size, 1, none⟩ = some (.int .i64 (nowS kk).1) := Dv.new_cell rfl rfl
              have p2 : (w17.alloc (.cells #[.int .i64 (kk : Int), .int .i64 (nowS kk).1, .slice pa (nowS kk).2.length pc] 38)).cell? ⟨w17.heap.size, 2, none⟩ = some (.slice pa (nowS kk).2.length pc) := Dv.new_cell rfl rfl
              have K18 := Lib.hid ((K16.out.below hb17).below hba)
              have R18 := Lib.hid ((R16.out.below hb17).below hba)
              have CP := Lib.hid (hr17.below hba)
              have hnew : R < w16.heap.size := (R16.out.row.at).2.1

              have l0 := Dv.keep_alloc (o := .cells #[.int .i64 (kk : Int), .int .i64 (nowS kk).1, .slice pa (nowS kk).2.length pc] 38) (Dv.keep_cell hb17 lc0)
              have l1 := Dv.keep_alloc (o := .cells #[.int .i64 (kk : Int), .int .i64 (nowS kk).1, .slice pa (nowS kk).2.length pc] 38) (Dv.keep_cell hb17 lc1)
              have l2 := Dv.keep_alloc (o := .cells #[.int .i64 (kk : Int), .int .i64 (nowS kk).1, .slice pa (nowS kk).2.length pc] 38) (Dv.keep_cell hb17 lc2)
              have CQ := Lib.hid (qcl.below K18.out.bw)
              have hsm1 : (nowS kk).2.length ≤ 1000000 := by
                rcases hS.out with e | e
                · rw [e]; exact Nat.le_trans (R16.out.sm kk hkk) (by omega)
                · rw [e, setPg_in]; exact Nat.le_trans (pgOk_parts hok).2.2.2.2.1 (by omega)
              clear hr17 hb17 hba KP K16 R16 lc0 lc1 lc2
              obtain ⟨ng, hng⟩ : ∃ z, z = (nowS kk).1 := ⟨_, rfl⟩
              obtain ⟨nl, hnl⟩ : ∃ z, z = (nowS kk).2 := ⟨_, rfl⟩
              have HNK : Hid (nowS kk = (ng, nl)) := by rw [Hid, hng, hnl]
              rw [← hng, ← hnl] at p0 p1 p2 l0 l1 l2 K18 R18 CP CQ
              rw [← hnl] at hsm1
              rw [← hng, ← hnl]
              clear hng hnl
              have KS1 := Lib.hid (refSame_any (kk : Int) ng pa nl pc (kk : Int) q.g q.a q.l q.c (w17.alloc (.cells #[.int .i64 (kk : Int), .int .i64 ng, .slice pa nl.length pc] 38)).drew (by have := (pgOk_parts hok).2.2.2.2.1; omega) CP.out.clsAt CQ.out)
              go_upto_region 28 with fail
              generalize hY : w17.alloc (.cells #[.int .i64 (kk : Int), .int .i64 ng, .slice pa nl.length pc] 38) = Y at *
              clear hY
              obtain ⟨qg, hqg⟩ : ∃ z, z = q.g := ⟨_, rfl⟩
              obtain ⟨qa, hqa⟩ : ∃ z, z = q.a := ⟨_, rfl⟩
              obtain ⟨qm, hqm⟩ : ∃ z, z = q.l.length := ⟨_, rfl⟩
              obtain ⟨qcc, hqc⟩ : ∃ z, z = q.c := ⟨_, rfl⟩
              rw [← hqg, ← hqa, ← hqm, ← hqc] at KS1
              rw [← hqg] at l1
              rw [← hqa, ← hqm, ← hqc] at l2
              have Hqg := Lib.hid hqg.symm
              clear hqg hqa hqm hqc qc0 qc1 qc2 CQ
              cases hsame : pgSame (kk : Int) ng nl (kk : Int) qg q.l with
              | true =>
                rw [hsame] at KS1
                have heq : ng = qg ∧ nl = q.l := by unfold pgSame at hsame; simpa using hsame
                have hN : Hid (nowS = (setPg now kk (q.g, q.l))) := by
                  rcases hS.out with e | e
                  · funext z
                    unfold setPg
                    split
                    · rename_i ez
                      rw [ez, HNK.out, heq.1, heq.2, Hqg.out]
                    · rw [e]
                  · exact e
                have heq2 := Lib.hid heq
                clear hsame hS heq
                go_wp2_with fail
                go_region_held3 (fun w' => w'.cell? ⟨w17.heap.size, 0, none⟩ = some (.int .i64 (kk : Int)) ∧ w'.cell? ⟨w17.heap.size, 1, none⟩ = some (.int .i64 ng) ∧ w'.cell? ⟨w17.heap.size, 2, none⟩ = some (.slice pa nl.length pc) ∧ w'.cell? ⟨b, off + J * 3, none⟩ = some (.int .i64 (kk : Int)) ∧ w'.cell? ⟨b, off + J * 3 + 1, none⟩ = some (.int .i64 qg) ∧ w'.cell? ⟨b, off + J * 3 + 2, none⟩ = some (.slice qa qm qcc))
                  ((refine ⟨?_, ?_, ?_, ?_, ?_, ?_⟩ <;> (repeat (first | with_reducible assumption | with_reducible refine tw_drew ?_ | with_reducible refine Dv.keep_cell (by assumption) ?_))))
                  (first | (go_at_call 16; refine KS1.out.mono ?_; rintro x w19 ⟨rfl, hb19⟩))
                have hb20 := (Below.refl Y.heap.size Y).drew.trans hb19
                have K20 := Lib.hid (K18.out.below hb20)
                have R20 := Lib.hid (R18.out.below hb20)
                have CP2 := Lib.hid (CP.out.below hb20)
                have t0 := Dv.keep_cell hb20 p0
                have t1 := Dv.keep_cell hb20 p1
                have t2 := Dv.keep_cell hb20 p2
                clear hb19 hb20 KS1 K18 R18 CP p0 p1 p2 l0 l1 l2
                obtain ⟨⟨v0, s0⟩, ⟨v1, s1⟩, ⟨va, vm, vc, s2⟩, sf⟩ := R20.out.spot kk hkk
                have hlen := R20.out.len
                have hXg := Lib.hid (set3_grown w19 R (kk * 3) (kk * 3 + 1) (kk * 3 + 2) (.int .i64 (kk : Int)) (.int .i64 ng) (.slice pa nl.length pc))
                have KU := Lib.hid (K20.out.apart hXg.out hRb hUR hRD hRP hRL hRM)
                have RX : Hid (RowP (((w19.setCell ⟨R, kk * 3, none⟩ (.int .i64 (kk : Int))).setCell ⟨R, kk * 3 + 1, none⟩ (.int .i64 ng)).setCell ⟨R, kk * 3 + 2, none⟩ (.slice pa nl.length pc)) wb.heap.size (.slice (some ⟨R, 0, none⟩) (ps.set kk ⟨(kk : Int), ng, pa, pc, nl⟩).length cap) (ps.set kk ⟨(kk : Int), ng, pa, pc, nl⟩)) := by
                  rw [Hid, List.length_set]
                  exact R20.out.row.set kk (by omega) ⟨(kk : Int), ng, pa, pc, nl⟩
                have CX : Hid (ClsAt (((w19.setCell ⟨R, kk * 3, none⟩ (.int .i64 (kk : Int))).setCell ⟨R, kk * 3 + 1, none⟩ (.int .i64 ng)).setCell ⟨R, kk * 3 + 2, none⟩ (.slice pa nl.length pc)) pa nl) := RowC.clsAt (B := w16.heap.size) (c := pc) (World.ownsRow.kept CP2.out hXg.out (by
                  cases ho : (Value.slice pa nl.length pc).ownBlock with
                  | none => exact .inl rfl
                  | some z => exact .inr (fun e => by
                      injection e with e
                      have := (CP2.out.lt z ho).1
                      omega)))
                have hPg := Lib.hid (RX.out.pgs (fun i hi => by
                  rw [List.getD_eq_getElem?_getD, List.getElem?_set]
                  by_cases e : kk = i
                  · rw [if_pos e, if_pos (by omega)]; exact CX.out
                  · rw [if_neg e, ← List.getD_eq_getElem?_getD]; exact (R20.out.cl i (by rw [List.length_set] at hi; omega)).below KU.out.bw))
                have hNi : Hid (NowIs 6 (ps.set kk ⟨(kk : Int), ng, pa, pc, nl⟩) nowS) := by
                  have := R20.out.is.set ⟨(kk : Int), ng, pa, pc, nl⟩ hkk rfl
                  have e1 : setPg now kk (ng, nl) = nowS := by rw [hN.out, heq2.out.1, heq2.out.2, Hqg.out]
                  change NowIs 6 _ (setPg now kk (ng, nl)) at this
                  rw [e1] at this
                  exact this
                have KS := Lib.hid (same12 KU.out (by intro e; cases e) (by omega) (by omega) R (ps.set kk ⟨(kk : Int), ng, pa, pc, nl⟩) cap hPg.out hNi.out (fun i hi => by
                  by_cases e : i = kk
                  · rw [e, HNK.out]; exact hsm1
                  · rw [hN.out, setPg_out e]; exact Nat.le_trans (R20.out.sm i hi) (by omega)))
                have hbb := Lib.hid KU.out.bw
                clear KU RX CX hPg hNi R20 K20 CP2 hXg HNK hN
                go_upto_region 32 with fail
                generalize hXX : ((w19.setCell ⟨R, kk * 3, none⟩ (.int .i64 (kk : Int))).setCell ⟨R, kk * 3 + 1, none⟩ (.int .i64 ng)).setCell ⟨R, kk * 3 + 2, none⟩ (.slice pa nl.length pc) = XX at *
                go_wp2_with fail
                refine KS.out.mono ?_
                rintro x w21 ⟨rfl, hb21⟩
                have hb22 := Bb.out.trans ((hbb.out.trans (hb21.mono hbb.out.size)).mono Bb.out.size)
                clear hb21 KS hbb Bb
                go_wp2
                go_ret
                exact ⟨rfl, hb22⟩
              | false =>
                rw [hsame] at KS1
                have hSn : nowS = now := by
                  rcases hS.out with e | e
                  · exact e
                  · have h1 := HNK.out
                    rw [e, setPg_in] at h1
                    have h2 : q.g = ng := congrArg Prod.fst h1
                    have h3 : q.l = nl := congrArg Prod.snd h1
                    have h4 : qg = ng := Hqg.out.symm.trans h2
                    rw [h4, h3, pgSame_rfl] at hsame
                    cases hsame
                clear hsame hS
                go_wp2_with fail
                go_region_held3 (fun w' => w'.cell? ⟨w17.heap.size, 0, none⟩ = some (.int .i64 (kk : Int)) ∧ w'.cell? ⟨w17.heap.size, 1, none⟩ = some (.int .i64 ng) ∧ w'.cell? ⟨w17.heap.size, 2, none⟩ = some (.slice pa nl.length pc) ∧ w'.cell? ⟨b, off + J * 3, none⟩ = some (.int .i64 (kk : Int)) ∧ w'.cell? ⟨b, off + J * 3 + 1, none⟩ = some (.int .i64 qg) ∧ w'.cell? ⟨b, off + J * 3 + 2, none⟩ = some (.slice qa qm qcc))
                  ((refine ⟨?_, ?_, ?_, ?_, ?_, ?_⟩ <;> (repeat (first | with_reducible assumption | with_reducible refine tw_drew ?_ | with_reducible refine Dv.keep_cell (by assumption) ?_))))
                  (first | (go_at_call 16; refine KS1.out.mono ?_; rintro x w19 ⟨rfl, hb19⟩))
                have hb20 := (Below.refl Y.heap.size Y).drew.trans hb19
                have K16 := Lib.hid (K18.out.below hb20)
                have R16 := Lib.hid (R18.out.below hb20)
                clear hb19 hb20 KS1 K18 R18 CP p0 p1 p2 l0 l1 l2
                subst hSn
                have KS := Lib.hid (same12 K16.out (by intro e; cases e) (by omega) (by omega) R ps cap (R16.out.pgs K16.out.bw) R16.out.is (fun i hi => Nat.le_trans (R16.out.sm i hi) (by omega)))
                have hbb := Lib.hid K16.out.bw
                have hlen := R16.out.len
                clear K16 R16
                go_wp2_with fail
                refine KS.out.mono ?_
                rintro x w21 ⟨rfl, hb21⟩
                have hb22 := Bb.out.trans ((hbb.out.trans (hb21.mono hbb.out.size)).mono Bb.out.size)
                clear hb21 KS hbb Bb
                go_wp2
                go_ret
                exact ⟨rfl, hb22⟩
end Go.Proofs.YtaegpniagpehcaaDoor
