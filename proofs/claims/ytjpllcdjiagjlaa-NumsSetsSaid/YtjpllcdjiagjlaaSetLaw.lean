/-
  NumsSets: the walk.
-/
import Derived.Test.YtjpllcdjiagjlaaSetEmpty
import Derived.StillTailTactics
import Derived.Deep.QuietTactic
import Derived.BigQuiet
import Derived.Deep.Cut
import Derived.Deep.CutRange
import Derived.Deep.DeepCutAuto
import Derived.Deep.CutBlock
namespace Go.Proofs.Ytjpllcdjiagjlaa
open Go.RowKit
/-- Two rows of the same numbers are the same. -/
theorem same_yes (a b : Option Addr) (l : List Int) (ca cb : Nat) (w : World) (hl : l.length ≤ maxLen) (ha : IntsAt w a l) (hb : IntsAt w b l) :
    Calls Try.prog 9 #[.slice a l.length ca, .slice b l.length cb] w fun e w' => e = .returned (.bool true) ∧ Below w.heap.size w w' := by
  have h := same_any a b l l ca cb w hl hl ha hb
  have e : (l == l) = true := by simp
  rw [e] at h; exact h
theorem undef_no {b : Bool} (h : (some undef : Option Value) = some (Value.bool b)) : False := by
  injection h with h
  cases h
set_option maxRecDepth 100000 in
set_option maxHeartbeats 8000000 in
theorem numsSets_walk (fA : Option Addr) (first : List Int) (fC : Nat) (lA : Option Addr) (l : List SAct) (lC : Nat) (qA : Option Addr) (ask : List Int) (qC : Nat) (fr : Int) (w : World) (hf : IntsAt w fA first) (hl : SActs w lA l) (hq : IntsAt w qA ask) (hlx : ∀ i, i < l.length → (l.getD i noSA).l.length ≤ maxLen)
    (hn1 : first.length ≤ maxLen) (hn2 : l.length ≤ maxLen) (hn3 : ask.length ≤ maxLen) :
    Calls Try.prog 3 #[.slice fA first.length fC, .slice lA l.length lC, .slice qA ask.length qC, .int .i64 fr] w fun e w' => e = .returned (.bool true) ∧ Below w.heap.size w w' := by
  have KA := Lib.hid (awake_any w)
  unfold maxLen at hn1 hn2 hn3
  have HF := Lib.hid hf
  have HL := Lib.hid hl
  have HQ := Lib.hid hq
  have HX := Lib.hid hlx
  obtain ⟨N1, hN1⟩ : ∃ N1, N1 = first.length := ⟨_, rfl⟩
  obtain ⟨N2, hN2⟩ : ∃ N2, N2 = l.length := ⟨_, rfl⟩
  obtain ⟨N3, hN3⟩ : ∃ N3, N3 = ask.length := ⟨_, rfl⟩
  have H1 := Lib.hid hN1
  have H2 := Lib.hid hN2
  have H3 := Lib.hid hN3
  have KO := Lib.hid (fun (h40 : N1 ≤ 40) (w1 : World) (hb : Below w.heap.size w w1) => ns_new fA first fC w w1 hb (by omega) hf)
  rw [← hN1] at hn1 KO ⊢
  rw [← hN2] at hn2 ⊢
  rw [← hN3] at hn3 ⊢
  clear hf hl hq hlx hN1 hN2 hN3
  by_cases h1 : N1 ≤ 40
  case neg =>
    have h1 : (40 : Int) < (N1 : Int) := by omega
    go_enter Try.func3, Try.ntmps3
    go_wp2_with fail
    refine KA.out.mono ?_
    rintro x w1 ⟨rfl, hb⟩
    go_wp2
    go_ret
    exact ⟨rfl, hb⟩
  by_cases h2 : N2 ≤ 30
  case neg =>
    have h2 : (30 : Int) < (N2 : Int) := by omega
    have h1 : (N1 : Int) ≤ 40 := by omega
    go_enter Try.func3, Try.ntmps3
    go_wp2_with fail
    refine KA.out.mono ?_
    rintro x w1 ⟨rfl, hb⟩
    go_wp2
    go_ret
    exact ⟨rfl, hb⟩
  by_cases h3 : N3 ≤ 10
  case neg =>
    have h3 : (10 : Int) < (N3 : Int) := by omega
    have h1 : (N1 : Int) ≤ 40 := by omega
    have h2 : (N2 : Int) ≤ 30 := by omega
    go_enter Try.func3, Try.ntmps3
    go_wp2_with fail
    refine KA.out.mono ?_
    rintro x w1 ⟨rfl, hb⟩
    go_wp2
    go_ret
    exact ⟨rfl, hb⟩
  have KO2 := Lib.hid (KO.out h1)
  have g1 : (N1 : Int) ≤ 40 := by omega
  have g2 : (N2 : Int) ≤ 30 := by omega
  have g3 : (N3 : Int) ≤ 10 := by omega
  clear KO
  go_enter Try.func3, Try.ntmps3
  go_wp2_with fail
  refine KA.out.mono ?_
  rintro x w1 ⟨rfl, hb1⟩
  have KO1 := Lib.hid (KO2.out w1 hb1)
  clear hb1 KA KO2
  go_wp2_with fail
  refine KO1.out.mono ?_
  rintro x w2 ⟨S, rfl, hs⟩
  obtain ⟨F, hF⟩ : ∃ F, F = putAll [] first := ⟨_, rfl⟩
  have HFF := Lib.hid hF
  have S0 : Hid (Ns w w2 S F (.slice none 0 0) (nowK [] (first.take 0) true)) := by rw [Hid, nowK_zero, hF]; exact hs
  clear hs hF KO1
  go_wp2
  go_loopw [10, 11] (fun v i wr => ∃ k : Nat, k ≤ N1 ∧ i = .int .i64 k ∧ Hid (Ns w wr S F v (nowK [] (first.take k) true))) (fun _ i _ => N1 - (intOf i).toNat)
  case atStart => exact ⟨0, Nat.zero_le _, rfl, S0⟩
  case round => as_aux_lemma =>
    obtain ⟨k, hk, rfl, hs⟩ := hrel
    rename World => wr
    clear S0
    by_cases hlt : k < N1
    · have hkf : k < first.length := by have := H1.out; omega
      obtain ⟨va, vc, rfl, hia⟩ := hs.out.at
      obtain ⟨b, off, rfl, hc⟩ := (HF.out.below hs.out.bw).cell hkf
      have HT := Lib.hid (nowK_take List.Pairwise.nil first true k hkf)
      have hll := nowK_len [] (first.take k) true
      rw [List.length_nil, List.length_take] at hll
      obtain ⟨x, hx⟩ : ∃ x, x = first.getD k 0 := ⟨_, rfl⟩
      obtain ⟨L, hL⟩ : ∃ L, L = nowK [] (first.take k) true := ⟨_, rfl⟩
      rw [← hx] at HT hc
      rw [← hL] at HT hs hia hll ⊢
      have KW := Lib.hid (ns_with hs.out va vc rfl hia x true (by omega))
      have hlt' : (k : Int) < (N1 : Int) := by omega
      clear hx hL hia hkf
      obtain ⟨M, hM⟩ : ∃ M, M = L.length := ⟨_, rfl⟩
      rw [← hM] at KW ⊢
      clear hM hs
      go_wp2_with fail
      refine KW.out.mono ?_
      rintro e w3 ⟨v', rfl, hs3⟩
      have HS3 := Lib.hid hs3
      clear hs3 KW hc
      go_wp2
      go_roundw
      case rel => exact ⟨k + 1, by omega, by go_num, by rw [Hid, HT.out]; exact HS3.out⟩
      case measure => simp [intOf]; omega
    · have hk1 : (N1 : Int) ≤ (k : Int) := by omega
      have hfull : nowK [] (first.take k) true = F := by rw [List.take_of_length_le (by have := H1.out; omega), HFF.out]; rfl
      have hFl : F.length ≤ 40 := by
        have := putAll_len [] first
        rw [HFF.out]
        have h4 := H1.out
        rw [List.length_nil] at this
        omega
      have S0a := hs.out
      rw [hfull] at S0a
      have S0 := Lib.hid S0a
      clear S0a
      clear hs hfull
      go_wp2
      go_loopw [10, 12] (fun v i wr => ∃ (k : Nat) (L : List Int), k ≤ N2 ∧ i = .int .i64 k ∧ L.length ≤ 40 + 40 * k ∧ Hid (Ns w wr S L v L)) (fun _ i _ => N2 - (intOf i).toNat)
      case atStart => exact ⟨0, F, Nat.zero_le _, rfl, by omega, S0⟩
      case round =>
        obtain ⟨i, L, hi, rfl, hLl, hs⟩ := hrel
        rename World => wa
        clear S0 hFl hk1 hlt hk
        have hi1 : (i : Int) ≤ (N2 : Int) := by omega
        obtain ⟨va, vc, rfl, hia⟩ := hs.out.at
        obtain ⟨M, hM⟩ : ∃ M, M = L.length := ⟨_, rfl⟩
        have HM := Lib.hid hM
        have HIA := Lib.hid hia
        rw [← hM] at hs hLl ⊢
        clear hM hia
        have hM1 : M ≤ 1240 := by omega
        go_wp2
        go_loop [13, 14] (fun al j => ∃ q : Nat, q ≤ N3 ∧ j = .int .i64 q ∧ al = .bool ((ask.take q).all (L.contains ·))) (fun _ j => N3 - (intOf j).toNat)
        case atStart => exact ⟨0, Nat.zero_le _, rfl, rfl⟩
        case round => as_aux_lemma =>
          obtain ⟨q, hq, rfl, rfl⟩ := hrel
          by_cases hlt : q < N3
          · have hqk : q < ask.length := by have := H3.out; omega
            obtain ⟨b, off, rfl, hc⟩ := (HQ.out.below hs.out.bw).cell hqk
            have hT := all_take (L.contains ·) ask q hqk
            obtain ⟨x, hx⟩ : ∃ x, x = ask.getD q 0 := ⟨_, rfl⟩
            rw [← hx] at hT hc
            have KH := Lib.hid (refHas_any x va L vc wa (by have := HM.out; omega) HIA.out)
            rw [← HM.out] at KH
            have hlt' : (q : Int) < (N3 : Int) := by omega
            obtain ⟨A, hA⟩ : ∃ A, A = (ask.take q).all (L.contains ·) := ⟨_, rfl⟩
            rw [← hA] at hT ⊢
            have HT := Lib.hid hT
            clear hT hx hA hqk
            cases A with
            | false =>
              go_wp2
              go_round
              case rel => exact ⟨q + 1, by omega, by go_num, by rw [HT.out, Bool.false_and]⟩
              case measure => simp [intOf]; omega
            | true =>
              go_wp2_with fail
              refine KH.out.mono ?_
              rintro e w3 ⟨rfl, rfl⟩
              go_wp2
              go_round
              case rel => exact ⟨q + 1, by omega, by go_num, by rw [HT.out, Bool.true_and]; first | rfl | simp⟩
              case measure => simp [intOf]; omega
          · have hq1 : (N3 : Int) ≤ (q : Int) := by omega
            have hfull : ask.take q = ask := List.take_of_length_le (by have := H3.out; omega)
            rw [hfull]
            have KHs := Lib.hid (fun (X : World) (hX : Below wa.heap.size wa X) => ns_has (hs.out.below hX) qA ask qC (by have := H3.out; omega) (HQ.out.below (hs.out.bw.trans (hX.mono hs.out.bw.size))))
            obtain ⟨A, hA⟩ : ∃ A, A = ask.all (L.contains ·) := ⟨_, rfl⟩
            rw [← hA] at KHs ⊢
            rw [← H3.out] at KHs
            clear hA hfull hq hlt
            go_wp2
            go_loopw [15, 16] (fun v j wr => ∃ q : Nat, q ≤ M ∧ j = .int .i64 q ∧ wr.ownsRow wa.heap.size 3 1 v (fromS (L.take q) fr).length (ints (fromS (L.take q) fr)) ∧ Below wa.heap.size wa wr) (fun _ j _ => M - (intOf j).toNat)
            case atStart => exact ⟨0, Nat.zero_le _, rfl, World.ownsRow_nil _ _ _ _, Below.refl _ _⟩
            case round => as_aux_lemma =>
              obtain ⟨q, hq, rfl, hown, hbr⟩ := hrel
              rename World => wb
              by_cases hlt : q < M
              · have hqL : q < L.length := by have := HM.out; omega
                obtain ⟨b, off, rfl, hc⟩ := (HIA.out.below hbr).cell hqL
                have hT := fromS_take L fr q hqL
                obtain ⟨x, hx⟩ : ∃ x, x = L.getD q 0 := ⟨_, rfl⟩
                rw [← hx] at hT hc
                have hlt' : (q : Int) < (M : Int) := by omega
                obtain ⟨O, hO⟩ : ∃ O, O = fromS (L.take q) fr := ⟨_, rfl⟩
                have hol : O.length ≤ 1000000 := by
                  have h5 : (fromS (L.take q) fr).length ≤ (L.take q).length := List.length_filter_le _ _
                  have h6 : (L.take q).length ≤ q := List.length_take_le _ _
                  rw [hO]; omega
                rw [← hO] at hT hown
                clear hx hO hqL
                by_cases hge : fr ≤ x
                · rw [if_pos hge] at hT
                  have HT := Lib.hid hT
                  clear hT
                  go_wp2_with (at_builtin; have h00 := hown; have h01 := hbr; have h02 := hol; refine wpList_app_int (by rfl) _ _ (by rfl) wb wa _ O x (by rfl) (by rfl) h00 h01 h02 ?_)
                  intro v' w4 ho4 hb4
                  have HO4 := Lib.hid ho4
                  clear ho4 hown hc hol
                  go_wp2
                  go_roundw
                  case rel => exact ⟨q + 1, by omega, by go_num, by rw [HT.out]; simpa using HO4.out, hb4⟩
                  case measure => simp [intOf]; omega
                · rw [if_neg hge, List.append_nil] at hT
                  have HT := Lib.hid hT
                  have HO4 := Lib.hid hown
                  clear hT hown hol
                  have hge' : x < fr := by omega
                  go_wp2
                  go_roundw
                  case rel => exact ⟨q + 1, by omega, by go_num, by rw [HT.out]; exact HO4.out, hbr⟩
                  case measure => simp [intOf]; omega
              · have hq1 : (M : Int) ≤ (q : Int) := by omega
                have hfull : L.take q = L := List.take_of_length_le (by have := HM.out; omega)
                rw [hfull] at hown
                obtain ⟨ra, rc, rfl, hra⟩ := ints_of_owns hown
                have HRA := Lib.hid hra
                have hfl : (fromS L fr).length ≤ M := by rw [HM.out]; exact List.length_filter_le _ _
                obtain ⟨R, hR⟩ : ∃ R, R = (fromS L fr).length := ⟨_, rfl⟩
                have HR := Lib.hid hR
                rw [← hR] at hfl ⊢
                have hsB := hs.out.below hbr
                have HBR := Lib.hid hbr
                have HIB := Lib.hid (HIA.out.below hbr)
                have KHb := Lib.hid (fun (X : World) (hX : Below wb.heap.size wb X) => KHs.out X (hbr.trans (hX.mono hbr.size)))
                have KE := Lib.hid (ns_ends hsB)
                have HSB := Lib.hid hsB
                clear hsB hra hown hbr hfull hR hs KHs HIA hq hlt
                have ni : decide ((N2 : Int) < (i : Int)) = false := by simp; omega
                unfold endsV at KE
                rw [← HM.out] at KE
                obtain ⟨x0, hx0⟩ : ∃ x0, x0 = L.getD 0 0 := ⟨_, rfl⟩
                obtain ⟨x1, hx1⟩ : ∃ x1, x1 = L.getD (M - 1) 0 := ⟨_, rfl⟩
                obtain ⟨okb, hok⟩ : ∃ okb, okb = decide (0 < M) := ⟨_, rfl⟩
                have HX0 := Lib.hid hx0
                have HX1 := Lib.hid hx1
                have HOK := Lib.hid hok
                rw [← hx0, ← hx1, ← hok] at KE
                clear hx0 hx1 hok
                go_wp2_with fail
                refine KE.out.mono ?_
                rintro e wc ⟨rfl, hbc⟩
                have HSC := Lib.hid (HSB.out.below hbc)
                have HIC := Lib.hid (HIB.out.below hbc)
                have HRC := Lib.hid (HRA.out.below hbc)
                have HBC := Lib.hid hbc
                clear hbc KE HSB HIB HRA
                go_upto_region 24 with fail
                go_cut [166] from 55 to 245 (fun s wx => s = .bool false ∧ Hid (Ns w wx S L (.slice va M vc) L))
                case first =>
                  by_cases h0 : 0 < M
                  · as_aux_lemma =>
                      have hokt : okb = true := by rw [HOK.out]; exact decide_eq_true h0
                      subst hokt
                      have h0p : (0 : Int) < (M : Int) := by omega
                      have x0e : (x0 != x0) = false := by simp
                      have x1e : (x1 != x1) = false := by simp
                      have mme : ((M : Int) != (M : Int)) = false := by simp
                      have KL := Lib.hid (ns_list HSC.out)
                      go_wp2_with fail
                      refine KL.out.mono ?_
                      rintro e wd ⟨v4, rfl, h4, hbd⟩
                      obtain ⟨a4, c4, rfl, i4⟩ := ints_of_owns h4
                      have HSD := Lib.hid (HSC.out.below hbd)
                      have HID := Lib.hid (HIC.out.below hbd)
                      have HRD := Lib.hid (HRC.out.below hbd)
                      have HBD := Lib.hid (HBC.out.trans (hbd.mono HBC.out.size))
                      have KS1 := Lib.hid (same_yes a4 va L c4 vc wd (by have := HM.out; unfold maxLen; omega) i4 HID.out)
                      rw [← HM.out] at KS1 ⊢
                      clear h4 i4 hbd HSC HIC HRC HBC KL
                      go_wp2_with fail
                      refine KS1.out.mono ?_
                      rintro e we ⟨rfl, hbe⟩
                      have HSE := Lib.hid (HSD.out.below hbe)
                      have HIE := Lib.hid (HID.out.below hbe)
                      have HRE := Lib.hid (HRD.out.below hbe)
                      have HBE := Lib.hid (HBD.out.trans (hbe.mono HBD.out.size))
                      have KLe := Lib.hid (ns_len HSE.out)
                      rw [← HM.out] at KLe
                      clear hbe HSD HID HRD HBD KS1
                      go_wp2_with fail
                      refine KLe.out.mono ?_
                      rintro e wf ⟨rfl, rfl⟩
                      have KHe := Lib.hid (KHb.out we HBE.out)
                      clear KLe KHb
                      go_wp2_with fail
                      refine KHe.out.mono ?_
                      rintro e wf ⟨rfl, hbf⟩
                      have HSF := Lib.hid (HSE.out.below hbf)
                      have HIF := Lib.hid (HIE.out.below hbf)
                      have HRF := Lib.hid (HRE.out.below hbf)
                      clear hbf HSE HIE HRE HBE KHe
                      have KF := Lib.hid (ns_from HSF.out fr)
                      have hAA : (A != A) = false := by simp
                      go_wp2_with fail
                      refine KF.out.mono ?_
                      rintro e wg ⟨v5, rfl, h5, hbg⟩
                      obtain ⟨a5, c5, rfl, i5⟩ := ints_of_owns h5
                      have HSG := Lib.hid (HSF.out.below hbg)
                      have HIG := Lib.hid (HIF.out.below hbg)
                      have KS2 := Lib.hid (same_yes a5 ra (fromS L fr) c5 rc wg (by rw [← HR.out]; unfold maxLen; omega) i5 (HRF.out.below hbg))
                      rw [← HR.out] at KS2 ⊢
                      clear h5 i5 hbg HSF HIF HRF KF
                      go_wp2_with fail
                      refine KS2.out.mono ?_
                      rintro e wh ⟨rfl, hbh⟩
                      have HSH := Lib.hid (HSG.out.below hbh)
                      have hih := HIG.out.below hbh
                      clear hbh HSG HIG KS2
                      obtain ⟨b, off, rfl, hc0⟩ := hih.cell (k := 0) (by have := HM.out; omega)
                      obtain ⟨b2, off2, hbb, hc1⟩ := hih.cell (k := M - 1) (by have := HM.out; omega)
                      cases hbb
                      rw [← HX0.out] at hc0
                      rw [← HX1.out] at hc1
                      clear hih
                      rw [Nat.add_zero] at hc0
                      have m0 : (1 : Int) ≤ (M : Int) := by omega
                      have m2 : (M : Int) - 1 < (M : Int) := by omega
                      have m3 : ((M : Int) - 1).toNat = M - 1 := by omega
                      go_wp2_with fail
                      all_goals try (exfalso; apply undef_no; assumption)
                      go_meet
                      exact ⟨rfl, HSH⟩
                  · as_aux_lemma =>
                      have hM0 : M = 0 := by omega
                      have hLn : L = [] := List.length_eq_zero_iff.1 (by rw [← HM.out]; exact hM0)
                      have hokf : okb = false := by rw [HOK.out]; exact decide_eq_false h0
                      subst hokf
                      have hx0 : x0 = 0 := by rw [HX0.out, hLn]; rfl
                      have hx1 : x1 = 0 := by rw [HX1.out, hLn]; rfl
                      subst hM0 hx0 hx1
                      clear hLn h0
                      have KL := Lib.hid (ns_list HSC.out)
                      go_wp2_with fail
                      refine KL.out.mono ?_
                      rintro e wd ⟨v4, rfl, h4, hbd⟩
                      obtain ⟨a4, c4, rfl, i4⟩ := ints_of_owns h4
                      have HSD := Lib.hid (HSC.out.below hbd)
                      have HID := Lib.hid (HIC.out.below hbd)
                      have HRD := Lib.hid (HRC.out.below hbd)
                      have HBD := Lib.hid (HBC.out.trans (hbd.mono HBC.out.size))
                      have KS1 := Lib.hid (same_yes a4 va L c4 vc wd (by have := HM.out; unfold maxLen; omega) i4 HID.out)
                      rw [← HM.out] at KS1 ⊢
                      clear h4 i4 hbd HSC HIC HRC HBC KL
                      go_wp2_with fail
                      refine KS1.out.mono ?_
                      rintro e we ⟨rfl, hbe⟩
                      have HSE := Lib.hid (HSD.out.below hbe)
                      have HIE := Lib.hid (HID.out.below hbe)
                      have HRE := Lib.hid (HRD.out.below hbe)
                      have HBE := Lib.hid (HBD.out.trans (hbe.mono HBD.out.size))
                      have KLe := Lib.hid (ns_len HSE.out)
                      rw [← HM.out] at KLe
                      clear hbe HSD HID HRD HBD KS1
                      go_wp2_with fail
                      refine KLe.out.mono ?_
                      rintro e wf ⟨rfl, rfl⟩
                      have KHe := Lib.hid (KHb.out we HBE.out)
                      clear KLe KHb
                      go_wp2_with fail
                      refine KHe.out.mono ?_
                      rintro e wf ⟨rfl, hbf⟩
                      have HSF := Lib.hid (HSE.out.below hbf)
                      have HIF := Lib.hid (HIE.out.below hbf)
                      have HRF := Lib.hid (HRE.out.below hbf)
                      clear hbf HSE HIE HRE HBE KHe
                      have KF := Lib.hid (ns_from HSF.out fr)
                      have hAA : (A != A) = false := by simp
                      go_wp2_with fail
                      refine KF.out.mono ?_
                      rintro e wg ⟨v5, rfl, h5, hbg⟩
                      obtain ⟨a5, c5, rfl, i5⟩ := ints_of_owns h5
                      have HSG := Lib.hid (HSF.out.below hbg)
                      have HIG := Lib.hid (HIF.out.below hbg)
                      have KS2 := Lib.hid (same_yes a5 ra (fromS L fr) c5 rc wg (by rw [← HR.out]; unfold maxLen; omega) i5 (HRF.out.below hbg))
                      rw [← HR.out] at KS2 ⊢
                      clear h5 i5 hbg HSF HIF HRF KF
                      go_wp2_with fail
                      refine KS2.out.mono ?_
                      rintro e wh ⟨rfl, hbh⟩
                      have HSH := Lib.hid (HSG.out.below hbh)
                      have hih := HIG.out.below hbh
                      clear hbh HSG HIG KS2
                      clear hih
                      go_wp2_with fail
                      all_goals try (exfalso; apply undef_no; assumption)
                      go_meet
                      exact ⟨rfl, HSH⟩
                case rest =>
                obtain ⟨rfl, HSH⟩ := hcut
                rename World => wh
                clear HSC HIC HRC HBC HX0 HX1 HOK KHb
                by_cases hlast : i = N2
                · have hl1 : ((i : Int) == (N2 : Int)) = true := by rw [beq_iff_eq]; omega
                  have HBW := Lib.hid HSH.out.bw
                  go_wp2
                  go_ret
                  exact ⟨rfl, HBW.out⟩
                · have hl1 : ((i : Int) == (N2 : Int)) = false := by rw [beq_eq_false_iff_ne]; omega
                  have hil : i < l.length := by have := H2.out; omega
                  have hil2 : (i : Int) < (N2 : Int) := by omega
                  rcases HL.out.below HSH.out.bw with hnil | ⟨g, go, rfl, hcs⟩
                  · rw [hnil] at hil; exact absurd hil (Nat.not_lt_zero _)
                  obtain ⟨p0, p1, hks⟩ := hcs i hil
                  have hxl := HX.out i hil
                  rcases HL.out with hnil | ⟨g2, go2, hge2, hcs2⟩
                  · rw [hnil] at hil; exact absurd hil (Nat.not_lt_zero _)
                  cases hge2
                  obtain ⟨_, _, hksw⟩ := hcs2 i hil
                  obtain ⟨y, hy⟩ : ∃ y, y = l.getD i noSA := ⟨_, rfl⟩
                  rw [← hy] at p0 p1 hks hxl hksw
                  obtain ⟨K, ka, ks, kc⟩ := y
                  dsimp only at p0 p1 hks hxl hksw
                  obtain ⟨m, hm⟩ : ∃ m, m = ks.length := ⟨_, rfl⟩
                  have Hm := Lib.hid hm
                  have HKS := Lib.hid hksw
                  have P0 := Lib.hid (fun (X : World) (hX : Below w.heap.size w X) => (hX.cell (p := ⟨g, go + i * 2, none⟩) (cell_lt (hcs2 i hil).1)).trans (hcs2 i hil).1)
                  have P1 := Lib.hid (fun (X : World) (hX : Below w.heap.size w X) => (hX.cell (p := ⟨g, go + i * 2 + 1, none⟩) (cell_lt (hcs2 i hil).2.1)).trans (hcs2 i hil).2.1)
                  rw [← hy] at P0 P1
                  dsimp only at P0 P1
                  rw [← hm] at p1 hxl P1
                  unfold maxLen at hxl
                  clear hcs hcs2 hy hm hks hksw
                  by_cases hm40 : m ≤ 40
                  case neg =>
                    have hm1 : (40 : Int) < (m : Int) := by omega
                    have HBW := Lib.hid HSH.out.bw
                    go_wp2
                    go_ret
                    exact ⟨rfl, HBW.out⟩
                  have hm1 : (m : Int) ≤ 40 := by omega
                  have S5 : ∀ on, Hid (Ns w wh S L (.slice va M vc) (nowK L (ks.take 0) on)) := fun on => by rw [Hid, nowK_zero]; exact HSH.out
                  have hrise := HSH.out.rises
                  have HRS := Lib.hid hrise
                  clear HSH hrise p0
                  by_cases hK : K = 0
                  · as_aux_lemma =>
                      have S6 := S5 true
                      clear S5
                      subst hK
                      go_wp2
                      go_loopw [10, 20, 21] (fun v n j wr => ∃ q : Nat, q ≤ m ∧ j = .int .i64 q ∧ n = .int .i64 (cntK L (ks.take q) true) ∧ Hid (Ns w wr S L v (nowK L (ks.take q) true))) (fun _ _ j _ => m - (intOf j).toNat)
                      case atStart => exact ⟨0, Nat.zero_le _, rfl, by rw [cntK_zero], S6⟩
                      case round => as_aux_lemma =>
                        obtain ⟨q, hq, rfl, rfl, hs7⟩ := hrel
                        rename World => wk
                        clear S6 p1
                        have p0 := P0.out wk hs7.out.bw
                        have p1 := P1.out wk hs7.out.bw
                        have hlenK := nowK_len L (ks.take q) true
                        have hlenQ : (ks.take q).length ≤ q := List.length_take_le _ _
                        rw [← HM.out] at hlenK
                        by_cases hlt : q < m
                        · have hqk : q < ks.length := by have := Hm.out; omega
                          obtain ⟨b, off, rfl, hc⟩ := (HKS.out.below hs7.out.bw).cell hqk
                          obtain ⟨wa2, wc2, rfl, hia⟩ := hs7.out.at
                          have HT1 := Lib.hid (nowK_take HRS.out ks true q hqk)
                          have HT2 := Lib.hid (cntK_take HRS.out ks true q hqk)
                          have hcb : -2000 ≤ cntK L (ks.take q) true ∧ cntK L (ks.take q) true ≤ 2000 := by
                            have h8 := nowK_len L (ks.take q) true
                            have h9 := delAll_len L (ks.take q)
                            rw [← HM.out] at h8 h9
                            have h10 : (putAll L (ks.take q)).length ≤ M + (ks.take q).length := h8
                            constructor <;> (unfold cntK; simp only [if_true]; rw [← HM.out]; omega)
                          obtain ⟨x, hx⟩ : ∃ x, x = ks.getD q 0 := ⟨_, rfl⟩
                          obtain ⟨J, hJ⟩ : ∃ J, J = nowK L (ks.take q) true := ⟨_, rfl⟩
                          obtain ⟨z, hz⟩ : ∃ z, z = cntK L (ks.take q) true := ⟨_, rfl⟩
                          rw [← hx] at HT1 HT2 hc
                          rw [← hJ] at HT1 HT2 hs7 hia hlenK ⊢
                          rw [← hz] at HT2 hcb ⊢
                          have KH := Lib.hid (fun n => refHas_any x wa2 J wc2 (wk.drewN n) (by omega) hia)
                          have KW := Lib.hid (fun n => ns_with (hs7.out.below ((below_drewN (Below.refl _ _) n).drew)) wa2 wc2 rfl hia x true (by omega) )
                          obtain ⟨jn, hjn⟩ : ∃ jn, jn = J.length := ⟨_, rfl⟩
                          rw [← hjn] at KH KW ⊢
                          have hlt' : (q : Int) < (m : Int) := by omega
                          clear hx hJ hz hia hqk hs7 hjn hlenK hlenQ
                          obtain ⟨cn, hcn⟩ : ∃ cn, cn = J.contains x := ⟨_, rfl⟩
                          rw [← hcn] at HT2 KH
                          clear hcn
                          cases cn with
                          | true =>
                            go_wp2_with fail
                            go_quiet ((go_at_call 7; exact Calls.quiet_of_same ((KH.out _).mono fun e w' h => ⟨h.1, h.2.symm⟩)))
                            have p0v := (show (wk.drewN nq).cell? _ = _ from p0)
                            have p1v := (show (wk.drewN nq).cell? _ = _ from p1)
                            have hcv := (show (wk.drewN nq).cell? _ = _ from hc)
                            have KV := Lib.hid (KW.out nq)
                            clear p0 p1 hc KW KH
                            generalize wk.drewN nq = V at *
                            go_wp2_with fail
                            go_still_tail 15, (by kernel_rfl)
                            change wpList _ _ _ _ _ V.drew
                            go_wp2_with fail
                            refine KV.out.mono ?_
                            rintro e wl ⟨v', rfl, hs8⟩
                            have HS8 := Lib.hid hs8
                            clear hs8 KV p0v p1v hcv
                            go_wp2
                            go_roundw
                            case rel => exact ⟨q + 1, by omega, by go_num, by rw [HT2.out]; exact congrArg _ (by simp), by rw [Hid, HT1.out]; exact HS8.out⟩
                            case measure => simp [intOf]; omega
                          | false =>
                            go_wp2_with fail
                            go_quiet ((go_at_call 7; exact Calls.quiet_of_same ((KH.out _).mono fun e w' h => ⟨h.1, h.2.symm⟩)))
                            have p0v := (show (wk.drewN nq).cell? _ = _ from p0)
                            have p1v := (show (wk.drewN nq).cell? _ = _ from p1)
                            have hcv := (show (wk.drewN nq).cell? _ = _ from hc)
                            have KV := Lib.hid (KW.out nq)
                            clear p0 p1 hc KW KH
                            generalize wk.drewN nq = V at *
                            go_wp2_with fail
                            go_still_tail 15, (by kernel_rfl)
                            change wpList _ _ _ _ _ V.drew
                            go_wp2_with fail
                            refine KV.out.mono ?_
                            rintro e wl ⟨v', rfl, hs8⟩
                            have HS8 := Lib.hid hs8
                            clear hs8 KV p0v p1v hcv
                            go_wp2
                            go_roundw
                            case rel => exact ⟨q + 1, by omega, by go_num, by rw [HT2.out]; rfl, by rw [Hid, HT1.out]; exact HS8.out⟩
                            case measure => simp [intOf]; omega
                        · have hq1 : (m : Int) ≤ (q : Int) := by omega
                          have hfull : ks.take q = ks := List.take_of_length_le (by have := Hm.out; omega)
                          rw [hfull] at hs7 hlenK ⊢
                          have hml := Hm.out
                          have KD := Lib.hid (ns_add hs7.out ka ks kc (by have := HM.out; omega) HKS.out)
                          have hzz : cntK L ks true = ((putAll L ks).length - L.length : Int) := rfl
                          have hnn : nowK L ks true = putAll L ks := rfl
                          have HLN := Lib.hid (nowK_len L ks true)
                          rw [← hzz, ← hml] at KD
                          rw [hnn] at HLN
                          obtain ⟨z, hz⟩ : ∃ z, z = cntK L ks true := ⟨_, rfl⟩
                          rw [← hz] at KD ⊢
                          have hze : (z != z) = false := by simp
                          clear hzz hz hs7 hlenK hlenQ hlt hq hml
                          go_wp2_with fail
                          refine KD.out.mono ?_
                          rintro e wz ⟨rfl, hs9⟩
                          have HS9 := Lib.hid hs9
                          clear hs9 KD p0 p1
                          go_wp2
                          go_roundw
                          case rel => exact ⟨i + 1, putAll L ks, by omega, by go_num, by have h1 := HLN.out; have h2 := HM.out; have h3 := Hm.out; omega, by first | exact HS9 | exact HS9.out⟩
                          case measure => simp [intOf]; omega
                  · as_aux_lemma =>
                      have S6 := S5 false
                      clear S5
                      have hK0 : (K == 0) = false := by rw [beq_eq_false_iff_ne]; exact hK
                      go_wp2
                      go_loopw [10, 20, 21] (fun v n j wr => ∃ q : Nat, q ≤ m ∧ j = .int .i64 q ∧ n = .int .i64 (cntK L (ks.take q) false) ∧ Hid (Ns w wr S L v (nowK L (ks.take q) false))) (fun _ _ j _ => m - (intOf j).toNat)
                      case atStart => exact ⟨0, Nat.zero_le _, rfl, by rw [cntK_zero], S6⟩
                      case round => as_aux_lemma =>
                        obtain ⟨q, hq, rfl, rfl, hs7⟩ := hrel
                        rename World => wk
                        clear S6 p1
                        have p0 := P0.out wk hs7.out.bw
                        have p1 := P1.out wk hs7.out.bw
                        have hlenK := nowK_len L (ks.take q) false
                        have hlenQ : (ks.take q).length ≤ q := List.length_take_le _ _
                        rw [← HM.out] at hlenK
                        by_cases hlt : q < m
                        · have hqk : q < ks.length := by have := Hm.out; omega
                          obtain ⟨b, off, rfl, hc⟩ := (HKS.out.below hs7.out.bw).cell hqk
                          obtain ⟨wa2, wc2, rfl, hia⟩ := hs7.out.at
                          have HT1 := Lib.hid (nowK_take HRS.out ks false q hqk)
                          have HT2 := Lib.hid (cntK_take HRS.out ks false q hqk)
                          have hcb : -2000 ≤ cntK L (ks.take q) false ∧ cntK L (ks.take q) false ≤ 2000 := by
                            have h8 := nowK_len L (ks.take q) true
                            have h9 := delAll_len L (ks.take q)
                            rw [← HM.out] at h8 h9
                            have h10 : (putAll L (ks.take q)).length ≤ M + (ks.take q).length := h8
                            constructor <;> (unfold cntK; simp only [Bool.false_eq_true, if_false]; rw [← HM.out]; omega)
                          obtain ⟨x, hx⟩ : ∃ x, x = ks.getD q 0 := ⟨_, rfl⟩
                          obtain ⟨J, hJ⟩ : ∃ J, J = nowK L (ks.take q) false := ⟨_, rfl⟩
                          obtain ⟨z, hz⟩ : ∃ z, z = cntK L (ks.take q) false := ⟨_, rfl⟩
                          rw [← hx] at HT1 HT2 hc
                          rw [← hJ] at HT1 HT2 hs7 hia hlenK ⊢
                          rw [← hz] at HT2 hcb ⊢
                          have KH := Lib.hid (fun n => refHas_any x wa2 J wc2 (wk.drewN n) (by omega) hia)
                          have KW := Lib.hid (fun n => ns_with (hs7.out.below ((below_drewN (Below.refl _ _) n).drew)) wa2 wc2 rfl hia x false (by omega) )
                          obtain ⟨jn, hjn⟩ : ∃ jn, jn = J.length := ⟨_, rfl⟩
                          rw [← hjn] at KH KW ⊢
                          have hlt' : (q : Int) < (m : Int) := by omega
                          clear hx hJ hz hia hqk hs7 hjn hlenK hlenQ
                          obtain ⟨cn, hcn⟩ : ∃ cn, cn = J.contains x := ⟨_, rfl⟩
                          rw [← hcn] at HT2 KH
                          clear hcn
                          cases cn with
                          | true =>
                            go_wp2_with fail
                            go_quiet ((go_at_call 7; exact Calls.quiet_of_same ((KH.out _).mono fun e w' h => ⟨h.1, h.2.symm⟩)))
                            have p0v := (show (wk.drewN nq).cell? _ = _ from p0)
                            have p1v := (show (wk.drewN nq).cell? _ = _ from p1)
                            have hcv := (show (wk.drewN nq).cell? _ = _ from hc)
                            have KV := Lib.hid (KW.out nq)
                            clear p0 p1 hc KW KH
                            generalize wk.drewN nq = V at *
                            go_wp2_with fail
                            go_still_tail 15, (by kernel_rfl)
                            change wpList _ _ _ _ _ V.drew
                            go_wp2_with fail
                            refine KV.out.mono ?_
                            rintro e wl ⟨v', rfl, hs8⟩
                            have HS8 := Lib.hid hs8
                            clear hs8 KV p0v p1v hcv
                            go_wp2
                            go_roundw
                            case rel => exact ⟨q + 1, by omega, by go_num, by rw [HT2.out]; rfl, by rw [Hid, HT1.out]; exact HS8.out⟩
                            case measure => simp [intOf]; omega
                          | false =>
                            go_wp2_with fail
                            go_quiet ((go_at_call 7; exact Calls.quiet_of_same ((KH.out _).mono fun e w' h => ⟨h.1, h.2.symm⟩)))
                            have p0v := (show (wk.drewN nq).cell? _ = _ from p0)
                            have p1v := (show (wk.drewN nq).cell? _ = _ from p1)
                            have hcv := (show (wk.drewN nq).cell? _ = _ from hc)
                            have KV := Lib.hid (KW.out nq)
                            clear p0 p1 hc KW KH
                            generalize wk.drewN nq = V at *
                            go_wp2_with fail
                            go_still_tail 15, (by kernel_rfl)
                            change wpList _ _ _ _ _ V.drew
                            go_wp2_with fail
                            refine KV.out.mono ?_
                            rintro e wl ⟨v', rfl, hs8⟩
                            have HS8 := Lib.hid hs8
                            clear hs8 KV p0v p1v hcv
                            go_wp2
                            go_roundw
                            case rel => exact ⟨q + 1, by omega, by go_num, by rw [HT2.out]; exact congrArg _ (by simp), by rw [Hid, HT1.out]; exact HS8.out⟩
                            case measure => simp [intOf]; omega
                        · have hq1 : (m : Int) ≤ (q : Int) := by omega
                          have hfull : ks.take q = ks := List.take_of_length_le (by have := Hm.out; omega)
                          rw [hfull] at hs7 hlenK ⊢
                          have hml := Hm.out
                          have KD := Lib.hid (ns_drop hs7.out ka ks kc (by omega) HKS.out)
                          have hzz : cntK L ks false = (L.length - (delAll L ks).length : Int) := rfl
                          have hnn : nowK L ks false = delAll L ks := rfl
                          have HLN := Lib.hid (nowK_len L ks false)
                          rw [← hzz, ← hml] at KD
                          rw [hnn] at HLN
                          obtain ⟨z, hz⟩ : ∃ z, z = cntK L ks false := ⟨_, rfl⟩
                          rw [← hz] at KD ⊢
                          have hze : (z != z) = false := by simp
                          clear hzz hz hs7 hlenK hlenQ hlt hq hml
                          go_wp2_with fail
                          refine KD.out.mono ?_
                          rintro e wz ⟨rfl, hs9⟩
                          have HS9 := Lib.hid hs9
                          clear hs9 KD p0 p1
                          go_wp2
                          go_roundw
                          case rel => exact ⟨i + 1, delAll L ks, by omega, by go_num, by have h1 := HLN.out; have h2 := HM.out; have h3 := Hm.out; omega, by first | exact HS9 | exact HS9.out⟩
                          case measure => simp [intOf]; omega
end Go.Proofs.Ytjpllcdjiagjlaa
