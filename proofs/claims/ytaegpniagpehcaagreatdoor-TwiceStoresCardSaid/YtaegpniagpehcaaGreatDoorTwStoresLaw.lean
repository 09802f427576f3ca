/-
  TwiceStores: the walk.
-/
import Derived.Test.YtaegpniagpehcaaGreatDoorTwStoresB
namespace Go.Proofs.YtaegpniagpehcaaGreatDoor
open Go.RowKit
set_option maxRecDepth 100000 in
set_option maxHeartbeats 8000000 in
theorem twiceStores_walk (nn : Int) (ga : Option Addr) (gs : List GrV) (gc : Nat) (mo : Nat) (w : World) (hgl : gs.length ≤ maxLen) (hga : GrsAt w ga gs) (hmo : mo ≤ 255) (ht : Tab w) :
    Calls Tryz.prog 3 #[.int .i64 nn, .slice ga gs.length gc, .int .u8 (mo : Int)] w fun x w' => x = .returned (.bool true) ∧ Below w.heap.size w w' := by
  have KW := Lib.hid (fun W hT => awake12_any W W (Below.refl _ _) hT)
  have HT := Lib.hid ht
  clear ht
  unfold maxLen at hgl
  by_cases h12 : 12 < gs.length
  · have h13 : (12 : Int) < (gs.length : Int) := by omega
    clear hga
    go_enter Tryz.func3, Tryz.ntmps3
    go_wp2_with fail
    refine (KW.out _ HT.out).mono ?_
    rintro x w2 ⟨rfl, hb2⟩
    clear KW HT
    go_wp2
    go_ret
    exact ⟨rfl, hb2⟩
  · have h13 : (gs.length : Int) ≤ 12 := by omega
    by_cases hmid : 10 < nn ∧ nn ≤ 64
    · obtain ⟨hm1, hm2⟩ := hmid
      clear hga
      go_enter Tryz.func3, Tryz.ntmps3
      go_wp2_with fail
      refine (KW.out _ HT.out).mono ?_
      rintro x w2 ⟨rfl, hb2⟩
      clear KW HT
      go_wp2
      go_ret
      exact ⟨rfl, hb2⟩
    · by_cases hlow : nn < 1
      · have hl2 : nn ≤ 10 := by omega
        clear hmid hga
        have hv : needV nn = 0 := by unfold needV; rw [if_neg (by omega)]
        have KN := Lib.hid (fun W => need_any nn W)
        rw [hv] at KN
        have hfb : fitsB 500 nn = false := by unfold fitsB; rw [hv]; rfl
        clear hv
        go_enter Tryz.func3, Tryz.ntmps3
        go_wp2_with fail
        refine (KW.out _ HT.out).mono ?_
        rintro x w2 ⟨rfl, hb2⟩
        have HT2 := Lib.hid (HT.out.below hb2)
        clear KW HT
        go_wp2_with fail
        refine (KN.out _).mono ?_
        rintro x w3 ⟨rfl, rfl⟩
        clear KN
        have KD := Lib.hid (c_new 500 w2 w2 (Below.refl _ _) HT2.out (by omega) (by omega))
        rw [show ((500 : Nat) : Int) = 500 from rfl] at KD
        go_wp2_with fail
        refine KD.out.mono ?_
        rintro x w4 ⟨D, P, L, M, rfl, hd4, hb4⟩
        have KB := Lib.hid (fmt_bad hd4.d nn hfb)
        have hb5 := hb2.trans (hb4.mono hb2.size)
        clear hd4 hb4 hb2 hfb KD
        go_wp2_with fail
        refine KB.out.mono ?_
        rintro x w5 ⟨rfl, rfl⟩
        clear KB
        go_wp2
        go_ret
        exact ⟨rfl, hb5⟩
      · by_cases hhigh : 64 < nn
        · have hl2 : 10 < nn := by omega
          have hl3 : 1 ≤ nn := by omega
          clear hmid hga
          have hv : needV nn = 0 := by unfold needV; rw [if_neg (by omega)]
          have KN := Lib.hid (fun W => need_any nn W)
          rw [hv] at KN
          have hfb : fitsB 500 nn = false := by unfold fitsB; rw [hv]; rfl
          clear hv
          go_enter Tryz.func3, Tryz.ntmps3
          go_wp2_with fail
          refine (KW.out _ HT.out).mono ?_
          rintro x w2 ⟨rfl, hb2⟩
          have HT2 := Lib.hid (HT.out.below hb2)
          clear KW HT
          go_wp2_with fail
          refine (KN.out _).mono ?_
          rintro x w3 ⟨rfl, rfl⟩
          clear KN
          have KD := Lib.hid (c_new 500 w2 w2 (Below.refl _ _) HT2.out (by omega) (by omega))
          rw [show ((500 : Nat) : Int) = 500 from rfl] at KD
          go_wp2_with fail
          refine KD.out.mono ?_
          rintro x w4 ⟨D, P, L, M, rfl, hd4, hb4⟩
          have KB := Lib.hid (fmt_bad hd4.d nn hfb)
          have hb5 := hb2.trans (hb4.mono hb2.size)
          clear hd4 hb4 hb2 hfb KD
          go_wp2_with fail
          refine KB.out.mono ?_
          rintro x w5 ⟨rfl, rfl⟩
          clear KB
          go_wp2
          go_ret
          exact ⟨rfl, hb5⟩
        · have hl2 : nn ≤ 10 := by omega
          have hl3 : 1 ≤ nn := by omega
          clear hmid hlow hhigh
          obtain ⟨p, rfl⟩ : ∃ p : Nat, nn = (p : Int) := ⟨nn.toNat, by omega⟩
          have p1 : 1 ≤ p := by omega
          have p2 : p ≤ 10 := by omega
          have p3 : (p : Int) ≤ 64 := by omega
          obtain ⟨r, hr, hrm⟩ : ∃ r : Nat, r ≤ 8 ∧ ((mo : Int).tmod 9) = (r : Int) := ⟨mo % 9, by omega, by rw [Int.tmod_eq_emod_of_nonneg (by omega)]; omega⟩
          obtain ⟨nd, hnd⟩ : ∃ nd, nd = 5 + 4 * p + r := ⟨_, rfl⟩
          obtain ⟨n5, hn5⟩ : ∃ n5, n5 = 5 + 4 * p := ⟨_, rfl⟩
          have KN := Lib.hid (fun W => need_any (p : Int) W)
          rw [show needV (p : Int) = ((n5 : Nat) : Int) by unfold needV; rw [if_pos (by omega)]; omega] at KN
          have e1 : IntKind.i64.wrap ((n5 : Int) + (r : Int)) = (nd : Int) := by rw [IntWalk.i64_in _ (by omega)]; omega
          obtain ⟨n4, hn4⟩ : ∃ n4, n4 + 1 = n5 := ⟨4 + 4 * p, by omega⟩
          have e2 : IntKind.i64.wrap ((n5 : Int) - 1) = (n4 : Int) := by rw [IntWalk.i64_in _ (by omega)]; omega
          have e3 : 5 + 4 * (p : Int) = (n5 : Int) := by omega
          have hfb : fitsB n4 (p : Int) = false := by unfold fitsB needV; rw [if_pos (by omega), decide_eq_true (by omega), decide_eq_false (by omega)]; rfl
          have HG0 := Lib.hid hga
          have Hn := Lib.hid (show nd = 5 + 4 * p + r ∧ n5 = 5 + 4 * p ∧ n4 + 1 = n5 from ⟨hnd, hn5, hn4⟩)
          have hnd1 : 5 + 4 * p ≤ nd := by omega
          have hnd2 : nd ≤ 100 := by omega
          have hn41 : 1 ≤ n4 := by omega
          have hn42 : n4 ≤ 100 := by omega
          clear hga hnd hn5 hn4
          go_enter Tryz.func3, Tryz.ntmps3
          go_wp2_with fail
          refine (KW.out _ HT.out).mono ?_
          rintro x wb ⟨rfl, hb2⟩
          have Bb := Lib.hid hb2
          have HTb := Lib.hid (HT.out.below hb2)
          have HG := Lib.hid (HG0.out.below hb2)
          clear KW HT HG0 hb2
          go_wp2_with fail
          refine (KN.out _).mono ?_
          rintro x w3 ⟨rfl, rfl⟩
          clear KN
          have KD := Lib.hid (c_new nd wb wb (Below.refl _ _) HTb.out (by omega) (by omega))
          go_wp2_with fail
          refine KD.out.mono ?_
          rintro x w4 ⟨D, P, L, M, rfl, hd4, hb4⟩
          have KF := Lib.hid (c_fmt hd4 (by omega) (by omega) p p1 (by omega) hnd1)
          clear hd4 hb4 KD
          go_wp2_with fail
          refine KF.out.mono ?_
          rintro x w5 ⟨T, rfl, hk5, hf5⟩
          have K5 := Lib.hid hk5
          have KD2 := Lib.hid (c_new n4 w5 w5 (Below.refl _ _) (HTb.out.below hk5.bw) hn41 (by omega))
          clear hk5 hf5 KF
          go_wp2_with fail
          refine KD2.out.mono ?_
          rintro x w6 ⟨D2, P2, L2, M2, rfl, hd6, hb6⟩
          have KB := Lib.hid (fmt_bad hd6.d (p : Int) hfb)
          have K6 := Lib.hid (K5.out.below hb6)
          clear hd6 hb6 KD2 K5 hfb
          go_wp2_with fail
          refine KB.out.mono ?_
          rintro x w7 ⟨rfl, rfl⟩
          have KE := Lib.hid (empty_any p (by omega) w6)
          clear KB
          go_wp2_with fail
          refine KE.out.mono ?_
          rintro x w7 ⟨v, rfl, hr7, hb7⟩
          obtain ⟨R, cap, rfl, hR5⟩ : ∃ R cap, v = .slice (some ⟨R, 0, none⟩) p cap ∧ w6.heap.size ≤ R := by
            rcases hr7.slice with ⟨_, e⟩ | ⟨R, cap, e, h⟩
            · have := congrArg List.length e
              rw [emP_len] at this
              exact absurd this (by show ¬ p = 0; omega)
            · rw [emP_len] at e
              exact ⟨R, cap, e, h⟩
          have hRb : wb.heap.size ≤ R := Nat.le_trans K6.out.bw.size hR5
          have hRT : T ≠ R := by have := K6.out.ltT; omega
          have hRD : D ≠ R := by have := K6.out.ltT; omega
          have hRP : P ≠ R := by have := K6.out.lts; omega
          have hRL : L ≠ R := by have := K6.out.lts; omega
          have hRM : M ≠ R := by have := K6.out.lts; omega
          obtain ⟨B0, hB0⟩ : ∃ B0, B0 = 0 + nd + 1 := ⟨_, rfl⟩
          have S7 : Hid (LpS wb w7 D P L M T R cap p nd (B0 + 280 * 0)) := by
            refine ⟨emP p, _, ⟨?_, nowN_em p, fun i hi => .inl (by rw [emP_get p i hi]), fun i hi => Nat.zero_le _⟩, ?_⟩
            · rw [emP_len]; exact hr7.base K6.out.bw.size
            · rw [hB0]; exact K6.out.below hb7
          have hB1 : B0 ≤ 200 := by omega
          clear hr7 hb7 hR5 KE K6 hB0 e1 e2 Hn
          go_wp2
          go_loopw [16] (fun v16 wr => ∃ i : Nat, i ≤ gs.length ∧ v16 = .int .i64 i ∧ Hid (LpS wb wr D P L M T R cap p nd (B0 + 280 * i))) (fun v16 _ => gs.length - (intOf v16).toNat)
          case atStart => exact ⟨0, Nat.zero_le _, rfl, S7⟩
          case round =>
            obtain ⟨i, hi, rfl, HS⟩ := hrel
            rename World => wa
            clear S7
            have hi0 : (0 : Int) ≤ (i : Int) := by omega
            obtain ⟨ps, now, N0, K0⟩ := HS.out
            by_cases hlt : i < gs.length
            · have hi1 : (i : Int) < (gs.length : Int) := by omega
              rcases HG.out with hnil | ⟨b, off, rfl, hgs⟩
              · rw [hnil] at hlt; exact absurd hlt (Nat.not_lt_zero _)
              obtain ⟨gcell, gok⟩ := hgs i hlt
              obtain ⟨g, hg⟩ : ∃ g, g = gs.getD i noGr := ⟨_, rfl⟩
              rw [← hg] at gcell gok
              clear hgs hg HS
              have gc0 := Dv.keep_cell K0.bw gcell
              have KG := Lib.hid (great12_any g.a g.l g.c wa gok.n (gok.m.below K0.bw) gok.z)
              have N0 := Lib.hid N0
              have K0 := Lib.hid K0
              cases hgr : psGreat g.l with
              | true =>
                rw [hgr] at KG
                go_wp2_with fail
                refine KG.out.mono ?_
                rintro x w8 ⟨rfl, hb8⟩
                have hb9 := Bb.out.trans ((K0.out.bw.trans (hb8.mono K0.out.bw.size)).mono Bb.out.size)
                clear hb8 KG N0 K0
                go_wp2
                go_ret
                exact ⟨rfl, hb9⟩
              | false =>
                rw [hgr] at KG
                have h20 := (psGreat_no hgr).1
                clear hgr
                go_wp2_with fail
                refine KG.out.mono ?_
                rintro x w8 ⟨rfl, hb8⟩
                have N1 := Lib.hid (N0.out.below hb8)
                have K1 := Lib.hid (K0.out.below hb8)
                clear hb8 KG N0 K0 gc0
                go_wp2
                go_loopw [17, 18] (fun v17 v18 wr => ∃ (k : Nat) (e : Int) (ps1 : List PgV) (now1 : Nat → Pg), k ≤ g.l.length ∧ v18 = .int .i64 k ∧ v17 = .int .i64 e ∧ (e = 0 ∨ e = 1) ∧ Hid (mdL p now g.l = if e = 0 then mdL p now1 (g.l.drop k) else (1, now1)) ∧ Hid (LpN wb wr R cap p ps1 now1) ∧ Hid (Tk wb wr D P L M nd (B0 + 280 * i) T p now .on)) (fun _ v18 _ => g.l.length - (intOf v18).toNat)
                case atStart => exact ⟨0, 0, ps, now, Nat.zero_le _, rfl, rfl, .inl rfl, (show mdL p now g.l = if (0 : Int) = 0 then mdL p now (g.l.drop 0) else _ by rw [if_pos rfl, List.drop_zero]), N1, K1⟩
                case round =>
                  obtain ⟨k, e, ps1, now1, hk, rfl, rfl, he, HM, N1, K1⟩ := hrel
                  rename World => wa2
                  have hk0 : (0 : Int) ≤ (k : Int) := by omega
                  rcases Nat.lt_or_ge k g.l.length with hlt2 | hge2
                  · have hk1 : (k : Int) < (g.l.length : Int) := by omega
                    rcases he with rfl | rfl
                    · rcases gok.m with hnil | ⟨pb, po, hpa, hcs⟩
                      · rw [hnil] at hlt2; exact absurd hlt2 (Nat.not_lt_zero _)
                      obtain ⟨b0, b1, b2, bcl⟩ := hcs k hlt2
                      have hlq := gok.z k
                      obtain ⟨q, hq⟩ : ∃ q, q = g.l.getD k noPg := ⟨_, rfl⟩
                      rw [← hq] at b0 b1 b2 bcl hlq
                      have hd : g.l.drop k = q :: g.l.drop (k + 1) := by
                        rw [List.drop_eq_getElem_cons hlt2, hq, List.getD_eq_getElem?_getD, List.getElem?_eq_getElem hlt2]; rfl
                      have HM2 := HM.out
                      rw [if_pos rfl, hd] at HM2
                      have gc1 := Dv.keep_cell K1.out.bw gcell
                      have c0 := Dv.keep_cell K1.out.bw b0
                      have c1 := Dv.keep_cell K1.out.bw b1
                      have c2 := Dv.keep_cell K1.out.bw b2
                      have hba := (Below.refl wa2.heap.size wa2).alloc (Nat.le_refl _) (.cells #[.int .i64 q.no, .int .i64 q.g, .slice q.a q.l.length q.c] 36)
                      have N2 := Lib.hid (N1.out.below hba)
                      have K2 := Lib.hid (K1.out.below hba)
                      have KR := Lib.hid (refRight_any q.no q.g q.a q.l q.c _ hlq (bcl.below K2.out.bw))
                      have x0 : (wa2.alloc (.cells #[.int .i64 q.no, .int .i64 q.g, .slice q.a q.l.length q.c] 36)).cell? ⟨wa2.heap.size, 0, none⟩ = some (.int .i64 q.no) := Dv.new_cell rfl rfl
                      have x1 : (wa2.alloc (.cells #[.int .i64 q.no, .int .i64 q.g, .slice q.a q.l.length q.c] 36)).cell? ⟨wa2.heap.size, 1, none⟩ = some (.int .i64 q.g) := Dv.new_cell rfl rfl
                      have x2 : (wa2.alloc (.cells #[.int .i64 q.no, .int .i64 q.g, .slice q.a q.l.length q.c] 36)).cell? ⟨wa2.heap.size, 2, none⟩ = some (.slice q.a q.l.length q.c) := Dv.new_cell rfl rfl
                      obtain ⟨okv, hokv⟩ : ∃ z, z = pgOk q.no q.g q.l := ⟨_, rfl⟩
                      rw [← hokv] at KR
                      have Hokv := Lib.hid hokv.symm
                      clear hokv
                      obtain ⟨qn, hqn⟩ : ∃ z, z = q.no := ⟨_, rfl⟩
                      obtain ⟨qg, hqg⟩ : ∃ z, z = q.g := ⟨_, rfl⟩
                      obtain ⟨qa, hqa⟩ : ∃ z, z = q.a := ⟨_, rfl⟩
                      obtain ⟨qm, hqm⟩ : ∃ z, z = q.l.length := ⟨_, rfl⟩
                      obtain ⟨qc, hqc⟩ : ∃ z, z = q.c := ⟨_, rfl⟩
                      have HQ := Lib.hid (show q.no = qn ∧ q.g = qg ∧ q.a = qa ∧ q.l.length = qm ∧ q.c = qc from ⟨hqn.symm, hqg.symm, hqa.symm, hqm.symm, hqc.symm⟩)
                      rw [← hqn, ← hqg, ← hqa, ← hqm, ← hqc] at KR N2 K2 x0 x1 x2
                      rw [← hqn] at c0
                      rw [← hqg] at c1
                      rw [← hqa, ← hqm, ← hqc] at c2
                      have Hpa := Lib.hid hpa
                      obtain ⟨ga1, hga⟩ : ∃ z, z = g.a := ⟨_, rfl⟩
                      rw [← hga] at hpa gc1
                      subst hpa
                      clear hga
                      clear hqn hqg hqa hqm hqc hcs HM hd hq hba N1 K1
                      cases okv with
                      | false =>
                        have hok : pgOk q.no q.g q.l = false := Hokv.out
                        clear Hokv
                        have hmd : mdL p now g.l = (1, now1) := by rw [HM2, mdL, if_neg (by rw [hok]; intro h; cases h.1)]
                        clear hok HM2
                        go_upto_region 23 with fail
                        generalize wa2.alloc (.cells #[.int .i64 qn, .int .i64 qg, .slice qa qm qc] 36) = Y at *
                        go_wp2_with fail
                        refine KR.out.mono ?_
                        rintro x w7 ⟨rfl, hb7⟩
                        have N3 := Lib.hid (N2.out.below hb7)
                        have K3 := Lib.hid (K2.out.below hb7)
                        clear hb7 KR N2 K2 x0 x1 x2 c0 c1 c2 gc1 HQ
                        go_wp2
                        go_roundw
                        case rel => exact ⟨k + 1, 1, ps1, now1, by omega, by go_num, rfl, .inr rfl, (show mdL p now g.l = if (1 : Int) = 0 then _ else (1, now1) by rw [if_neg (by decide)]; exact hmd), N3, K3⟩
                        case measure => simp [intOf]; omega
                      | true =>
                        have hok : pgOk q.no q.g q.l = true := Hokv.out
                        clear Hokv
                        by_cases hfar : (p : Int) ≤ q.no
                        · have hmd : mdL p now g.l = (1, now1) := by rw [HM2, mdL, if_neg (fun h => by omega)]
                          have hfar2 : (p : Int) ≤ qn := by rw [← HQ.out.1]; exact hfar
                          clear hok HM2 hfar
                          go_upto_region 23 with fail
                          generalize wa2.alloc (.cells #[.int .i64 qn, .int .i64 qg, .slice qa qm qc] 36) = Y at *
                          go_wp2_with fail
                          refine KR.out.mono ?_
                          rintro x w7 ⟨rfl, hb7⟩
                          have N3 := Lib.hid (N2.out.below hb7)
                          have K3 := Lib.hid (K2.out.below hb7)
                          have y0 := Dv.keep_cell hb7 x0
                          clear hb7 KR N2 K2 x0 x1 x2 c0 c1 c2 gc1 HQ
                          go_wp2
                          go_roundw
                          case rel => exact ⟨k + 1, 1, ps1, now1, by omega, by go_num, rfl, .inr rfl, (show mdL p now g.l = if (1 : Int) = 0 then _ else (1, now1) by rw [if_neg (by decide)]; exact hmd), N3, K3⟩
                          case measure => simp [intOf]; omega
                        · obtain ⟨kk, hkn⟩ : ∃ kk : Nat, q.no = (kk : Int) := ⟨q.no.toNat, by have := (pgOk_parts hok).1; omega⟩
                          have hkk : kk < p := by omega
                          have hkp : (kk : Int) < (p : Int) := by omega
                          have hkz : (0 : Int) ≤ (kk : Int) := by omega
                          have hmd : mdL p now g.l = mdL p (setPg now1 kk (q.g, q.l)) (g.l.drop (k + 1)) := by rw [HM2, mdL, if_pos ⟨hok, by omega⟩, hkn, Int.toNat_natCast]
                          have hl8 : q.l.length ≤ 1000 := Nat.le_trans (pgOk_parts hok).2.2.2.2.1 (by omega)
                          have hqk : qn = (kk : Int) := by rw [← HQ.out.1]; exact hkn
                          subst hqk
                          clear hok HM2 hfar
                          go_upto_region 23 with fail
                          generalize wa2.alloc (.cells #[.int .i64 (kk : Int), .int .i64 qg, .slice qa qm qc] 36) = Y at *
                          go_wp2_with fail
                          refine KR.out.mono ?_
                          rintro x w7 ⟨rfl, hb7⟩
                          have N3 := Lib.hid (N2.out.below hb7)
                          have K3 := Lib.hid (K2.out.below hb7)
                          have y0 := Dv.keep_cell hb7 x0
                          have y1 := Dv.keep_cell hb7 x1
                          have y2 := Dv.keep_cell hb7 x2
                          obtain ⟨⟨v0, s0⟩, ⟨v1, s1⟩, ⟨va, vm, vc, s2⟩, sf⟩ := N3.out.spot kk hkk
                          have hlen := Lib.hid N3.out.len
                          have hXg := Lib.hid (set3_grown w7 R (kk * 3) (kk * 3 + 1) (kk * 3 + 2) (.int .i64 (kk : Int)) (.int .i64 qg) (.slice qa qm qc))
                          have K4 := Lib.hid (K3.out.apart hXg.out hRb hRT hRD hRP hRL hRM)
                          have N4 : Hid (LpN wb (((w7.setCell ⟨R, kk * 3, none⟩ (.int .i64 (kk : Int))).setCell ⟨R, kk * 3 + 1, none⟩ (.int .i64 qg)).setCell ⟨R, kk * 3 + 2, none⟩ (.slice qa qm qc)) R cap p (ps1.set kk q) (setPg now1 kk (q.g, q.l))) := by
                            have := N3.out.set kk hkk q hkn bcl hl8
                            obtain ⟨_, g2, g3, g4, g5⟩ := HQ.out
                            rw [hkn, g2, g3, g4, g5] at this
                            rw [g2]
                            exact this
                          clear hb7 KR N2 K2 x0 x1 x2 c0 c1 c2 gc1 HQ hXg K3 N3
                          go_wp2
                          go_roundw
                          case rel => exact ⟨k + 1, 0, ps1.set kk q, setPg now1 kk (q.g, q.l), by omega, by go_num, rfl, .inl rfl, (show mdL p now g.l = if (0 : Int) = 0 then _ else _ by rw [if_pos rfl]; exact hmd), N4, K4⟩
                          case measure => simp [intOf]; omega
                    · have hmd : mdL p now g.l = (1, now1) := by have := HM.out; rw [if_neg (by decide)] at this; exact this
                      have gc0 := Dv.keep_cell K1.out.bw gcell
                      clear HM
                      have KSt := Lib.hid (c_storeL K1.out (by omega) (by omega) g.a g.l g.c (by omega) gok.m gok.z)
                      rw [hmd] at KSt
                      have gc1 := Dv.keep_cell K1.out.bw gcell
                      go_wp2_with fail
                      refine KSt.out.mono ?_
                      rintro x w8 ⟨rfl, hk8, hf8⟩
                      have N8 := Lib.hid (N1.out.fr3 hf8 hRP hRL hRM)
                      have K8 : Hid (Tk wb w8 D P L M nd (B0 + 280 * i + 280) T p now1 .on) := by
                        obtain ⟨s, q1, q2, q3⟩ := hk8
                        exact ⟨s, q1.more (by omega), q2, q3⟩
                      have KSm := Lib.hid (same12 K8.out (by intro e; cases e) (by omega) (by omega) R ps1 cap (N8.out.pgs K8.out.bw) N8.out.is (fun j hj => Nat.le_trans (N8.out.sm j hj) (by omega)))
                      have hlen8 := Lib.hid N8.out.len
                      clear hk8 hf8 KSt N1 K1 gc1 hmd
                      go_wp2_with fail
                      refine KSm.out.mono ?_
                      rintro x w9 ⟨rfl, hb9⟩
                      have N9 := Lib.hid (N8.out.below hb9)
                      have K9 := Lib.hid (K8.out.below hb9)
                      have KL := Lib.hid (c_loose K9.out)
                      clear hb9 KSm N8 K8
                      go_wp2_with fail
                      refine KL.out.mono ?_
                      rintro x w10 ⟨rfl, hb10⟩
                      have S10 : Hid (LpS wb w10 D P L M T R cap p nd (B0 + 280 * (i + 1))) := by
                        refine ⟨ps1, now1, N9.out.below hb10, ?_⟩
                        rw [show B0 + 280 * (i + 1) = B0 + 280 * i + 280 by omega]
                        exact K9.out.below hb10
                      clear hb10 KL N9 K9
                      go_wp2
                      go_roundw
                      case rel => exact ⟨i + 1, by omega, by go_num, S10⟩
                      case measure => simp [intOf]; omega
                  · have hk1 : (g.l.length : Int) ≤ (k : Int) := by omega
                    have hmd : mdL p now g.l = (e, now1) := by
                      have := HM.out
                      rcases he with rfl | rfl
                      · rw [if_pos rfl, List.drop_eq_nil_of_le hge2, mdL] at this; exact this
                      · rw [if_neg (by decide)] at this; exact this
                    have gc0 := Dv.keep_cell K1.out.bw gcell
                    clear HM
                    have KSt := Lib.hid (c_storeL K1.out (by omega) (by omega) g.a g.l g.c (by omega) gok.m gok.z)
                    rw [hmd] at KSt
                    have gc1 := Dv.keep_cell K1.out.bw gcell
                    go_wp2_with fail
                    refine KSt.out.mono ?_
                    rintro x w8 ⟨rfl, hk8, hf8⟩
                    have N8 := Lib.hid (N1.out.fr3 hf8 hRP hRL hRM)
                    have K8 : Hid (Tk wb w8 D P L M nd (B0 + 280 * i + 280) T p now1 .on) := by
                      obtain ⟨s, q1, q2, q3⟩ := hk8
                      exact ⟨s, q1.more (by omega), q2, q3⟩
                    have KSm := Lib.hid (same12 K8.out (by intro e; cases e) (by omega) (by omega) R ps1 cap (N8.out.pgs K8.out.bw) N8.out.is (fun j hj => Nat.le_trans (N8.out.sm j hj) (by omega)))
                    have hlen8 := Lib.hid N8.out.len
                    clear hk8 hf8 KSt N1 K1 gc1 hmd
                    go_wp2_with fail
                    refine KSm.out.mono ?_
                    rintro x w9 ⟨rfl, hb9⟩
                    have N9 := Lib.hid (N8.out.below hb9)
                    have K9 := Lib.hid (K8.out.below hb9)
                    have KL := Lib.hid (c_loose K9.out)
                    clear hb9 KSm N8 K8
                    go_wp2_with fail
                    refine KL.out.mono ?_
                    rintro x w10 ⟨rfl, hb10⟩
                    have S10 : Hid (LpS wb w10 D P L M T R cap p nd (B0 + 280 * (i + 1))) := by
                      refine ⟨ps1, now1, N9.out.below hb10, ?_⟩
                      rw [show B0 + 280 * (i + 1) = B0 + 280 * i + 280 by omega]
                      exact K9.out.below hb10
                    clear hb10 KL N9 K9
                    go_wp2
                    go_roundw
                    case rel => exact ⟨i + 1, by omega, by go_num, S10⟩
                    case measure => simp [intOf]; omega
            · have hi1 : (gs.length : Int) ≤ (i : Int) := by omega
              have KO := Lib.hid (c_open K0.up (by omega) (by omega) p1 (by omega) hnd1)
              have N0 := Lib.hid N0
              clear HS K0
              go_wp2_with fail
              refine KO.out.mono ?_
              rintro x w8 ⟨U, rfl, hk8, hf8⟩
              have N8 := Lib.hid (N0.out.fr3 hf8 hRP hRL hRM)
              have KSm := Lib.hid (same12 hk8 (by intro e; cases e) (by omega) (by omega) R ps cap (N8.out.pgs hk8.bw) N8.out.is (fun j hj => Nat.le_trans (N8.out.sm j hj) (by omega)))
              have hbb := Lib.hid hk8.bw
              clear hk8 hf8 KO N0 N8
              go_wp2_with fail
              refine KSm.out.mono ?_
              rintro x w9 ⟨rfl, hb9⟩
              have hb10 := Bb.out.trans ((hbb.out.trans (hb9.mono hbb.out.size)).mono Bb.out.size)
              clear hb9 KSm hbb
              go_wp2
              go_ret
              exact ⟨rfl, hb10⟩
end Go.Proofs.YtaegpniagpehcaaGreatDoor
